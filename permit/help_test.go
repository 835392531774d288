package permit_test

import (
	"slices"
	"strings"

	"armature/api"
	"armature/permit"
)

func piece(kind string, day int) api.Piece { return api.Piece{Kind: kind, Place: "york", Day: day} }

// leave is a permit for the days 0 to 9 in york.
func leave(most int, kinds ...string) api.Permit {
	return api.Permit{Kinds: kinds, Place: "york", To: 9, Most: most}
}

func owls(n int) []api.Piece { return slices.Repeat([]api.Piece{piece("owl", 1)}, n) }

func leaves(n int) []api.Permit {
	var l []api.Permit
	for range n {
		l = append(l, leave(1, "owl"))
	}
	return l
}

// mixed is an owl and a fox, and permits for both and for owls.
func mixed() ([]api.Piece, []api.Permit) {
	return []api.Piece{piece("owl", 1), piece("fox", 2)}, []api.Permit{leave(1, "fox", "owl"), leave(1, "owl")}
}

// dice throws numbers that are the same in every run.
type dice uint64

func (d *dice) throw(n int) int {
	*d = *d*6364136223846793005 + 1442695040888963407
	return int(uint64(*d) >> 33 % uint64(n))
}

// choose picks some of the words, in their order, and one at least.
func (d *dice) choose(words ...string) []string {
	l := []string{}
	for _, w := range words {
		if d.throw(2) == 0 {
			l = append(l, w)
		}
	}
	if len(l) == 0 {
		return append(l, words[d.throw(len(words))])
	}
	return l
}

// desk throws at most so many pieces and permits, which often cover each other.
func (d *dice) desk(pieces, permits, most int) ([]api.Piece, []api.Permit) {
	var p []api.Piece
	for range d.throw(pieces + 1) {
		p = append(p, api.Piece{Kind: d.choose("bat", "fox", "hare", "owl")[0], Place: "york", Day: d.throw(4)})
	}
	var q []api.Permit
	for range d.throw(permits + 1) {
		from := d.throw(3)
		x := api.Permit{Kinds: d.choose("bat", "fox", "hare", "owl"), Place: "york", From: from, To: from + d.throw(4), Most: d.throw(most + 1)}
		if d.throw(8) == 0 {
			x.Place = "bath"
		}
		q = append(q, x)
	}
	return p, q
}

// small throws cases all filings of which can be gone through.
func small(seed dice, times int, use func(pieces []api.Piece, permits []api.Permit)) {
	for range times {
		use(seed.desk(5, 3, 2))
	}
}

func covered(p api.Permit, x api.Piece) bool {
	has := false
	for _, kind := range p.Kinds {
		has = has || kind == x.Kind
	}
	return has && p.Place == x.Place && p.From <= x.Day && p.To >= x.Day
}

// right asks anew whether a filing with an entry for each piece is right.
func right(pieces []api.Piece, permits []api.Permit, filing []int) bool {
	for k, p := range permits {
		n := 0
		for i, at := range filing {
			if at == k {
				n++
			}
			if at == k && !covered(p, pieces[i]) {
				return false
			}
		}
		if n > p.Most {
			return false
		}
	}
	return true
}

// filings is all filings, right or not: in the order in which a permit is better than none and a lesser one better than a greater one.
func filings(pieces, permits int) [][]int {
	all := [][]int{nil}
	for range pieces {
		var longer [][]int
		for _, l := range all {
			for k := range permits {
				longer = append(longer, append(slices.Clone(l), k))
			}
			longer = append(longer, append(slices.Clone(l), -1))
		}
		all = longer
	}
	return all
}

func rightFilings(pieces []api.Piece, permits []api.Permit) [][]int {
	return slices.DeleteFunc(filings(len(pieces), len(permits)), func(l []int) bool { return !right(pieces, permits, l) })
}

func count(filing []int) int {
	n := 0
	for _, k := range filing {
		if k != -1 {
			n++
		}
	}
	return n
}

// greatest goes through all filings for the one with the most pieces, the first of several.
func greatest(pieces []api.Piece, permits []api.Permit) []int {
	return slices.MaxFunc(rightFilings(pieces, permits), func(a, b []int) int { return count(a) - count(b) })
}

// withMost returns the permits with another Most for one of them.
func withMost(permits []api.Permit, k, most int) []api.Permit {
	l := slices.Clone(permits)
	l[k].Most = most
	return l
}

func wrongPieces() []api.Piece {
	long := strings.Repeat("a", 21)
	return []api.Piece{
		{}, {Kind: "owl"}, {Place: "york"},
		{Kind: "Owl", Place: "york"}, {Kind: "owl", Place: "York"}, {Kind: "an owl", Place: "york"}, {Kind: "owl", Place: "é"},
		{Kind: long, Place: "york"}, {Kind: "owl", Place: long},
		{Kind: "owl", Place: "york", Day: -1}, {Kind: "owl", Place: "york", Day: api.MaxDay + 1},
	}
}

func eleven() []string { return strings.Split("a b c d e f g h i j k", " ") }

func wrongPermits() []api.Permit {
	long := strings.Repeat("a", 21)
	change := func(f func(*api.Permit)) api.Permit {
		p := leave(1, "owl")
		f(&p)
		return p
	}
	return []api.Permit{
		{}, leave(1), leave(1, eleven()...), leave(1, "owl", "fox"), leave(1, "owl", "owl"), leave(1, "Owl"), leave(1, ""), leave(1, "owl", long), leave(1, "fox", "owl", ""),
		leave(-1, "owl"), leave(101, "owl"),
		change(func(p *api.Permit) { p.Place = "" }), change(func(p *api.Permit) { p.Place = "York" }), change(func(p *api.Permit) { p.Place = long }),
		change(func(p *api.Permit) { p.From = -1 }), change(func(p *api.Permit) { p.From = 10 }),
		change(func(p *api.Permit) { p.From, p.To = -2, -1 }), change(func(p *api.Permit) { p.To = api.MaxDay + 1 }),
		change(func(p *api.Permit) { p.From, p.To = api.MaxDay+1, api.MaxDay+1 }),
	}
}

// wrongBooks are pieces and permits that are not valid together.
func wrongBooks(use func(pieces []api.Piece, permits []api.Permit)) {
	for _, x := range wrongPieces() {
		use([]api.Piece{piece("owl", 1), x}, leaves(1))
	}
	for _, p := range wrongPermits() {
		use(owls(1), []api.Permit{leave(1, "owl"), p})
	}
	use(owls(api.MaxPieces+1), leaves(1))
	use(owls(1), leaves(api.MaxPermits+1))
}

func mustMost(pieces []api.Piece, permits []api.Permit) int {
	n, e := permit.Most(pieces, permits)
	if e != api.OK {
		panic("no Most")
	}
	return n
}
