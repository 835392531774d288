package bath_test

import (
	"math"
	"math/big"
	"slices"

	"armature/api"
	"armature/bath"
)

const top = api.MaxGrain

// vat is the vat of the chapter's examples.
func vat() api.Vat {
	return api.Vat{Bath: api.Bath{Water: 900, Acid: 100}, Skin: api.Skin{Water: 100, Open: 500}}
}

func step(kind, n int) api.Step { return api.Step{Kind: kind, N: n} }

// dice throws numbers that are the same in every run.
type dice uint64

func (d *dice) throw(n int) int {
	*d = *d*6364136223846793005 + 1442695040888963407
	return int(uint64(*d) >> 33 % uint64(n))
}

// grains throws a number up to most, and often 0.
func (d *dice) grains(most int) int {
	if d.throw(4) == 0 {
		return 0
	}
	return d.throw(most + 1)
}

func (d *dice) bath(most int) api.Bath {
	return api.Bath{Water: d.grains(most), Salt: d.grains(most), Acid: d.grains(most)}
}

// size throws how large the numbers of a case are: from so small that all of them meet to the greatest that a vat can have three times.
func (d *dice) size() int { return []int{3, 30, 3000, top / 1000, top / 3}[d.throw(5)] }

func (d *dice) vat() api.Vat {
	n := d.size()
	b := d.bath(n)
	open := []int{0, 1, 500, 999, 1000, d.throw(1001)}[d.throw(6)]
	return api.Vat{Bath: d.bath(n), Skin: api.Skin{Water: b.Water, Salt: b.Salt, Acid: b.Acid, Open: open}, Gone: d.bath(n)}
}

// steps throws at most so many steps, which add up to so many grains at once.
func (d *dice) steps(count, most int) []api.Step {
	var l []api.Step
	for range d.throw(count + 1) {
		kind := 1 + d.throw(6)
		n := d.grains(most)
		if kind == api.SWait || kind == api.SPour {
			n = d.grains(1000)
		}
		if kind == api.SWait {
			n /= 50
		}
		l = append(l, step(kind, n))
	}
	return l
}

// part returns n * a / b, cut off to a whole number, however large the product is.
func part(n, a, b int) int {
	x := new(big.Int).Mul(big.NewInt(int64(n)), big.NewInt(int64(a)))
	return int(x.Quo(x, big.NewInt(int64(b))).Int64())
}

// balance says anew what the skin would have at last of what is in bath and skin.
func balance(v api.Vat, inBath, inSkin int) int {
	if v.Bath.Water == 0 && v.Skin.Water == 0 {
		return inSkin
	}
	return part(inBath+inSkin, v.Skin.Water, v.Bath.Water+v.Skin.Water)
}

// hourOn says anew what an hour does.
func hourOn(v api.Vat) api.Vat {
	salt := part(balance(v, v.Bath.Salt, v.Skin.Salt)-v.Skin.Salt, v.Skin.Open, 1000)
	acid := part(balance(v, v.Bath.Acid, v.Skin.Acid)-v.Skin.Acid, v.Skin.Open, 1000)
	return api.Vat{
		Bath: api.Bath{Water: v.Bath.Water, Salt: v.Bath.Salt - salt, Acid: v.Bath.Acid - acid},
		Skin: api.Skin{Water: v.Skin.Water, Salt: v.Skin.Salt + salt, Acid: v.Skin.Acid + acid, Open: v.Skin.Open},
		Gone: v.Gone,
	}
}

// stepOn says anew what a step does, and whether it is refused.
func stepOn(v api.Vat, s api.Step) (api.Vat, bool) {
	if s.Kind == api.SWait {
		for range s.N {
			v = hourOn(v)
		}
	}
	if s.Kind == api.SLime {
		rest := max(0, v.Bath.Acid-s.N)
		v.Gone.Acid += v.Bath.Acid - rest
		v.Bath.Acid = rest
	}
	if s.Kind == api.SPour {
		for _, x := range []struct{ from, to *int }{{&v.Bath.Water, &v.Gone.Water}, {&v.Bath.Salt, &v.Gone.Salt}, {&v.Bath.Acid, &v.Gone.Acid}} {
			n := part(*x.from, s.N, 1000)
			*x.from -= n
			*x.to += n
		}
	}
	p := putOf([]api.Step{s})
	v.Bath.Water += p.Water
	v.Bath.Salt += p.Salt
	v.Bath.Acid += p.Acid
	all := totalOf(v)
	return v, all.Water > top || all.Salt > top || all.Acid > top
}

func totalOf(v api.Vat) api.Bath {
	return api.Bath{
		Water: v.Bath.Water + v.Skin.Water + v.Gone.Water,
		Salt:  v.Bath.Salt + v.Skin.Salt + v.Gone.Salt,
		Acid:  v.Bath.Acid + v.Skin.Acid + v.Gone.Acid,
	}
}

func putOf(l []api.Step) api.Bath {
	n := map[int]int{}
	for _, s := range l {
		n[s.Kind] += s.N
	}
	return api.Bath{Water: n[api.SWater], Salt: n[api.SSalt], Acid: n[api.SAcid]}
}

// wrongGrains are numbers that no bath and no skin has.
func wrongGrains() []int { return []int{math.MinInt, -1, top + 1, math.MaxInt} }

func wrongBaths() []api.Bath {
	var l []api.Bath
	for _, n := range wrongGrains() {
		l = append(l, api.Bath{Water: n}, api.Bath{Water: 5, Salt: n}, api.Bath{Water: 5, Acid: n}, api.Bath{Water: n, Salt: n, Acid: n})
	}
	// Sums and products of these would not fit, or would seem to.
	return append(l, api.Bath{Water: math.MinInt, Salt: 1, Acid: math.MaxInt}, api.Bath{Water: math.MaxInt, Acid: -math.MaxInt})
}

func wrongSkins() []api.Skin {
	var l []api.Skin
	for _, b := range wrongBaths() {
		l = append(l, api.Skin{Water: b.Water, Salt: b.Salt, Acid: b.Acid, Open: 500})
	}
	for _, open := range []int{math.MinInt, -1, 1001, top, math.MaxInt} {
		l = append(l, api.Skin{Water: 5, Open: open})
	}
	return l
}

func wrongVats() []api.Vat {
	l := []api.Vat{
		{Bath: api.Bath{Water: top}, Skin: api.Skin{Water: 1}}, {Skin: api.Skin{Water: top}, Gone: api.Bath{Water: 1}}, {Bath: api.Bath{Water: 1}, Gone: api.Bath{Water: top}},
		{Bath: api.Bath{Salt: top}, Skin: api.Skin{Salt: 1}}, {Skin: api.Skin{Salt: top}, Gone: api.Bath{Salt: 1}}, {Bath: api.Bath{Salt: 1}, Gone: api.Bath{Salt: top}},
		{Bath: api.Bath{Acid: top}, Skin: api.Skin{Acid: 1}}, {Skin: api.Skin{Acid: top}, Gone: api.Bath{Acid: 1}}, {Bath: api.Bath{Acid: 1}, Gone: api.Bath{Acid: top}},
		{Bath: api.Bath{Water: top, Salt: top, Acid: top}, Skin: api.Skin{Water: top, Salt: top, Acid: top}, Gone: api.Bath{Water: top, Salt: top, Acid: top}},
		{Bath: api.Bath{Acid: math.MaxInt}, Skin: api.Skin{Acid: math.MaxInt}, Gone: api.Bath{Acid: 2}},
		// Together these would be right.
		{Bath: api.Bath{Water: -5}, Gone: api.Bath{Water: 5}}, {Bath: api.Bath{Salt: -5}, Skin: api.Skin{Salt: 5}}, {Bath: api.Bath{Acid: -5}, Gone: api.Bath{Acid: top}},
		{Skin: api.Skin{Water: -5}, Gone: api.Bath{Water: 5}}, {Skin: api.Skin{Salt: -5}, Bath: api.Bath{Salt: 5}}, {Skin: api.Skin{Acid: -1}, Bath: api.Bath{Acid: top}},
		{Gone: api.Bath{Water: -5}, Skin: api.Skin{Water: 5}}, {Gone: api.Bath{Salt: -5}, Bath: api.Bath{Salt: 5}}, {Gone: api.Bath{Acid: -5}, Bath: api.Bath{Acid: top + 1}},
	}
	for _, b := range wrongBaths() {
		l = append(l, api.Vat{Bath: b}, api.Vat{Gone: b})
	}
	for _, s := range wrongSkins() {
		l = append(l, api.Vat{Skin: s})
	}
	return l
}

func wrongSteps() []api.Step {
	var l []api.Step
	for _, kind := range []int{math.MinInt, -1, 0, 7, 256 + 1, math.MaxInt} {
		l = append(l, step(kind, 0), step(kind, 1))
	}
	for kind := 1; kind <= 6; kind++ {
		for _, n := range wrongGrains() {
			l = append(l, step(kind, n))
		}
	}
	return append(l, step(api.SWait, 1001), step(api.SPour, 1001), step(api.SWait, top), step(api.SPour, top))
}

// wrongLists are steps that are not valid together.
func wrongLists() [][]api.Step {
	l := [][]api.Step{slices.Repeat([]api.Step{step(api.SWait, 0)}, api.MaxSteps+1)}
	for _, s := range wrongSteps() {
		l = append(l, []api.Step{s}, []api.Step{step(api.SWait, 1), s}, []api.Step{s, step(api.SWait, 1)})
	}
	return l
}

func mustRun(v api.Vat, l ...api.Step) api.Vat {
	w, n, e := bath.Run(v, l)
	if e != api.OK || n != len(l) {
		panic("no Run")
	}
	return w
}
