package rooms_test

import (
	"fmt"
	"math"
	"slices"
	"strings"
	"testing"

	"armature/api"
	"armature/loan"
	"armature/mark"
	"armature/permit"
	"armature/rooms"
)

// line throws a line, most often one that can be done.
func (d *dice) line(a *account) string {
	n := d.throw(9)
	if len(a.numbers) > 0 && d.throw(12) > 0 {
		n = a.numbers[d.throw(len(a.numbers))]
	}
	sign := "claw"
	if k := a.kept[n]; k != nil && d.throw(20) > 0 {
		sign = k.signs[d.throw(len(k.signs))]
	}
	room, soon := d.throw(4+d.throw(2)), a.day+d.throw(6)
	switch d.throw(23) {
	case 0:
		return fmt.Sprintf("day %d", max(0, soon-1))
	case 1:
		return fmt.Sprintf("permit %s %s %d %d %d", d.pick("owl", "owl", "fox", "Owl"), d.pick("york", "york", "bath"), max(0, a.day-d.throw(9)), soon+d.throw(9), d.throw(5))
	case 2, 3, 4:
		return fmt.Sprintf("in %d %s %s %d %d", d.throw(30), d.pick("owl", "owl", "owl", "fox", "fox", "o-l"), d.pick("york", "york", "york", "bath"), max(0, soon-d.throw(7)), room)
	case 5, 6:
		return fmt.Sprintf("part %d %s %s", n, sign, d.pick("skull", "jaw", "tooth", "skin", "claw", "wing", "Wing", "whole"))
	case 7, 8:
		return fmt.Sprintf("write %d %s %s %s", n, sign, d.pick("a", "b", "c", "d", "e", "f", "kind", "K"), d.pick("1", "1", "1", "1", "1", "1", "2", "owl"))
	case 9:
		return fmt.Sprintf("data %d %s", n, sign)
	case 10, 11, 12:
		return fmt.Sprintf("lend %d %s %s %d", n, sign, d.pick("kew", "bath", "york-2", "Kew"), soon)
	case 13, 14:
		return fmt.Sprintf("back %d %s", n, sign)
	case 15:
		return fmt.Sprintf("renew %d %s %d", n, sign, soon+d.throw(5))
	case 16, 17:
		return fmt.Sprintf("where %d %s", n, sign)
	case 18:
		return fmt.Sprintf("move %d %d", n, room)
	case 19:
		return fmt.Sprintf("seal %d", d.throw(5))
	case 20:
		return fmt.Sprintf("open %d", d.throw(5))
	case 21:
		return "danger"
	}
	if d.throw(20) == 0 {
		return fmt.Sprintf("day %d", api.MaxDay-10+d.throw(20))
	}
	return d.pick("dance", "day", "danger 5", "day 007", "in 5", "lend 5 whole", "where 5 whole ", "day 999999")
}

// TestP10Account does many lines, and holds all that rooms say against a second account.
func TestP10Account(t *testing.T) {
	count := map[string]int{}
	for seed := range dice(60) {
		d, a, x := seed, newAccount(), begun(t)
		for range 400 {
			line := d.line(a)
			before := len(a.texts)
			want, wantE := a.do(line)
			if r, e := x.Do(line); r != want || e != wantE {
				t.Fatalf("%s: %q, %d; want %q, %d, after\n%s", line, r, e, want, wantE, x.Book())
			}
			if s := faceOf(x); s != a.face() {
				t.Fatalf("%s made\n%s; want\n%s", line, s, a.face())
			}
			if lines := strings.Count(x.Book(), "\n"); wantE != api.OK && lines != before || wantE == api.OK && lines != before+1 {
				t.Fatalf("%s, and the book has %d lines", line, lines)
			}
			word, _, _ := strings.Cut(line, " ")
			count[fmt.Sprint(word, " ", wantE)]++
		}
	}
	for _, k := range []string{"day 0", "day 7", "permit 0", "permit 1", "permit 4", "in 0", "in 7", "in 1", "in 6", "in 11", "part 0", "part 5", "part 1", "part 6", "write 0", "write 5", "write 1", "write 10", "write 4", "data 0", "data 5", "lend 0", "lend 5", "lend 9", "lend 1", "back 0", "back 5", "back 8", "back 9", "renew 0", "renew 5", "renew 8", "renew 9", "where 0", "where 5", "move 0", "move 5", "move 7", "move 9", "seal 0", "seal 5", "seal 9", "open 0", "open 5", "open 9", "danger 0", "danger 13", "dance 13"} {
		if count[k] < 3 {
			t.Errorf("%s came only %d times", k, count[k])
		}
	}
}

// thrown are rooms in which many thrown lines were done.
func thrown(t *testing.T, seed dice, lines int) *rooms.Rooms {
	t.Helper()
	a, x := newAccount(), begun(t)
	for n := range lines {
		line := seed.line(a)
		if n == 0 {
			line = "permit owl york 0 9 2"
		}
		a.do(line)
		x.Do(line)
	}
	return x
}

func TestP103Permits(t *testing.T) {
	pieces := 0
	for seed := range dice(40) {
		x := thrown(t, 100+seed, 300)
		if len(x.Pieces()) != len(x.Numbers()) {
			t.Fatalf("pieces %v of %v", x.Pieces(), x.Numbers())
		}
		pieces += len(x.Pieces())
		if filing, e := permit.File(x.Pieces(), x.Permits()); e != api.OK || !permit.Full(filing) || !permit.Right(x.Pieces(), x.Permits(), filing) {
			t.Fatalf("%v under %v: %d", x.Pieces(), x.Permits(), e)
		}
	}
	if pieces < 100 {
		t.Errorf("only %d pieces", pieces)
	}
}

func TestP104NeverParted(t *testing.T) {
	loans, parts := 0, 0
	for seed := range dice(40) {
		x := thrown(t, 200+seed, 300)
		for _, n := range x.Numbers() {
			p, ok := x.Parts(n)
			if _, _, _, e := mark.Clash(p); !ok || e != api.ErrNone {
				t.Fatalf("%v: %d", p, e)
			}
			m, _ := mark.Mark(n)
			number := strings.ToLower(m[:6] + m[7:])
			for i := range p {
				data, e := mark.Data(p, i)
				if e != api.OK || !slices.Contains(data, api.Field{Key: "number", Value: number}) {
					t.Fatalf("data %v, %d of %d", data, e, n)
				}
				parts++
			}
		}
		if !loan.Valid(x.Loans()) {
			t.Fatalf("loans %v", x.Loans())
		}
		for i, l := range x.Loans() {
			for _, other := range x.Loans()[:i] {
				if other.Piece == l.Piece && (other.Back == 0 || other.Back > l.Out) {
					t.Fatalf("on the day %d %s is in two places", l.Out, l.Piece)
				}
			}
			loans++
		}
	}
	if loans < 200 || parts < 400 {
		t.Errorf("only %d loans of %d parts", loans, parts)
	}
}

func TestP105Replay(t *testing.T) {
	for seed := range dice(20) {
		x := thrown(t, 300+seed, 200)
		book := x.Book()
		l, torn, e := rooms.Lines(book)
		if e != api.OK || torn {
			t.Fatalf("Lines: %t, %d", torn, e)
		}
		y := begun(t)
		cut := 0
		for i, line := range l {
			cut += strings.IndexByte(book[cut:], '\n') + 1
			done(t, y, line.Text)
			for _, more := range []int{0, 1, 20} {
				z, n, e := rooms.Replay(house(), rule(), book[:min(len(book), cut+more)])
				if e != api.OK || n != i+1 || faceOf(z) != faceOf(y) {
					t.Fatalf("Replay of %d lines: %d, %d", i+1, n, e)
				}
			}
		}
		if faceOf(x) != faceOf(y) {
			t.Fatalf("%s became %s", faceOf(x), faceOf(y))
		}
	}
	// The longest book is done again, too.
	x := begun(t, append(crowd(), days(api.MaxLines-len(crowd()))...)...)
	y, n, e := rooms.Replay(house(), rule(), x.Book())
	if e != api.OK || n != api.MaxLines || faceOf(x) != faceOf(y) {
		t.Fatalf("Replay: %d, %d", n, e)
	}
	check(t, y, refused(api.ErrLimit, "danger")...)
}

func TestP106Sealed(t *testing.T) {
	inDanger := func(x *rooms.Rooms) []string {
		r, e := x.Do("danger")
		if e != api.OK {
			t.Fatalf("danger: %d", e)
		}
		return strings.Fields(strings.TrimPrefix(r, "none"))
	}
	fewer := 0
	for seed := range dice(60) {
		x := thrown(t, 400+seed, 150)
		for door := range house().Doors {
			before := inDanger(x)
			if _, e := x.Do(fmt.Sprintf("seal %d", door)); e != api.OK {
				continue
			}
			after := inDanger(x)
			for _, n := range after {
				if !slices.Contains(before, n) {
					t.Fatalf("sealed, the door %d puts %s in danger", door, n)
				}
			}
			if len(after) < len(before) {
				fewer++
			}
		}
	}
	if fewer < 10 {
		t.Errorf("only %d doors helped", fewer)
	}
}

func TestP101EndsWithoutPanic(t *testing.T) {
	words := []string{"day", "permit", "in", "part", "write", "data", "lend", "back", "renew", "where", "move", "seal", "open", "danger", "0", "1", "2", "5", "8", "30", "999999", "1000000", "whole", "skull", "jaw", "owl", "york", "kew", "Kew", "", "-", "\x00", "\xff", strings.Repeat("a", 99), strings.Repeat("9", 99)}
	d := dice(500)
	x := begun(t, owl()...)
	for range 20000 {
		var list []string
		for range 1 + d.throw(6) {
			list = append(list, d.pick(words...))
		}
		line := strings.Join(list, " ")
		before := len(x.Book())
		if r, e := x.Do(line); (e == api.OK) == (r == "") || (e == api.OK) != (len(x.Book()) > before) {
			t.Fatalf("%q: %q, %d", line, r, e)
		}
	}
	books := []string{"", "\n", " ", "0", "0 ", "0 69b49fa2d86f8085 ", "0 69b49fa2d86f8085 \n", written, written + "7", written + "\n", written[1:], strings.Repeat("\n", maxBook), strings.Repeat(" ", maxBook), strings.Repeat("0 ", maxBook/2), "\xff\n", bookOf("dance"), bookOf(days(2001)...), bookOf(goodTexts()...), strings.Repeat("x", 1<<22)}
	for _, book := range books {
		for _, h := range append(wrongHouses(), house()) {
			for _, f := range append(wrongRules(), rule())[8:] {
				x, n, e := rooms.Replay(h, f, book)
				if (x == nil) != (e != api.OK) || e != api.OK && e != api.ErrSum && n != 0 {
					t.Fatalf("Replay of %.60q: %d, %d", book, n, e)
				}
				if l, e := rooms.Replies(h, f, book); e != api.OK && len(l) != 0 {
					t.Fatalf("Replies of %.60q: %v, %d", book, l, e)
				}
				for _, n := range []int{math.MinInt, -1, 0, 5, math.MaxInt} {
					if l, e := rooms.History(h, f, book, n); e != api.OK && len(l) != 0 {
						t.Fatalf("History of %.60q: %v, %d", book, l, e)
					}
				}
			}
		}
		for _, other := range books {
			if same, e := rooms.Parting(book, other); same < 0 || e != api.OK && same != 0 {
				t.Fatalf("Parting of %.60q and %.60q: %d, %d", book, other, same, e)
			}
		}
	}
}

// fill writes over all memory of a list, beyond its length too.
func fill[T any](l []T, with T) {
	for i := range l[:cap(l)] {
		l[:cap(l)][i] = with
	}
}

func TestP101ResultsAreNew(t *testing.T) {
	x := begun(t, append(owl(), "in 8 owl york 0 1", "lend 5 skull kew 9", "seal 1", "seal 2", "seal 3", "open 3", "part 5 whole wing")...)
	y := x.Copy()
	before := faceOf(x)
	for range 3 {
		fill(x.Numbers(), -9)
		fill(x.Loans(), api.Loan{Piece: "spoilt"})
		fill(x.Pieces(), api.Piece{Kind: "spoilt"})
		fill(x.Sealed(), -9)
		permits := x.Permits()
		for _, p := range permits {
			fill(p.Kinds, "spoilt")
		}
		fill(permits, api.Permit{})
		parts, _ := x.Parts(5)
		for i := range parts {
			others := fmt.Sprint(parts[:i], parts[i+1:])
			fill(parts[i].Label, api.Field{Key: "spoilt"})
			if fmt.Sprint(parts[:i], parts[i+1:]) != others {
				t.Fatalf("labels of %v share memory", parts)
			}
		}
		fill(parts, api.Part{Sign: "spoilt"})
	}
	if faceOf(x) != before || faceOf(y) != before {
		t.Errorf("%s became %s, and the copy %s", before, faceOf(x), faceOf(y))
	}
	// They go on as others do that nobody has touched.
	z := begun(t)
	for _, line := range linesIn(t, x.Book()) {
		done(t, z, line)
	}
	for _, line := range []string{"permit fox york 0 9 1", "in 9 fox york 0 0", "part 5 wing feather", "lend 5 wing bath 9", "seal 0", "day 3", "back 5 skull"} {
		done(t, x, line)
		done(t, z, line)
		if faceOf(x) != faceOf(z) {
			t.Fatalf("%s made %s; want %s", line, faceOf(x), faceOf(z))
		}
	}
}

func linesIn(t *testing.T, book string) []string {
	t.Helper()
	l, _, e := rooms.Lines(book)
	if e != api.OK {
		t.Fatalf("Lines: %d", e)
	}
	var list []string
	for _, line := range l {
		list = append(list, line.Text)
	}
	return list
}

func TestP101ArgumentsStay(t *testing.T) {
	h := house()
	spare := slices.Concat(h.Doors, []api.Door{{A: 8, B: 9, Cost: 7}})
	h.Doors = spare[:len(h.Doors)]
	before := slices.Clone(spare)
	x, e := rooms.New(h, rule())
	y, _, e2 := rooms.Replay(h, rule(), written)
	if e != api.OK || e2 != api.OK {
		t.Fatalf("New: %d, Replay: %d", e, e2)
	}
	l := []api.Reading{{Temp: 200}, {Hour: 5, Temp: -300}}
	if hour, e := x.Frozen(l, 90); hour != 53 || e != api.OK || l[0] != (api.Reading{Temp: 200}) || l[1] != (api.Reading{Hour: 5, Temp: -300}) {
		t.Errorf("Frozen: %d, %d, and the readings %v", hour, e, l)
	}
	done(t, x, "permit owl york 0 9 9", "in 5 owl york 0 2", "seal 1", "seal 0", "open 0")
	if !slices.Equal(spare, before) {
		t.Errorf("%v became %v", before, spare)
	}
	// What becomes of the doors that were handed over is nothing to the rooms.
	fill(spare, api.Door{A: 0, B: 3})
	check(t, x, reply{"danger", "5", api.OK}, reply{"seal 2", "sealed 2", api.OK}, reply{"danger", "none", api.OK})
	check(t, y, reply{"danger", "none", api.OK}, reply{"open 0", "sealed 0", api.OK}, reply{"danger", "5", api.OK})
}

func TestP1SameCallSameResult(t *testing.T) {
	x := begun(t, append(owl(), "in 8 owl york 0 1", "write 5 jaw b 2", "write 5 skin a 1", "lend 5 skull kew 9", "lend 5 skin bath 9", "data 5 whole", "where 5 tooth", "danger", "data 5 jaw")...)
	book, face := x.Book(), faceOf(x)
	replies, _ := rooms.Replies(house(), rule(), book)
	history, _ := rooms.History(house(), rule(), book, 5)
	for range 20 {
		if l, e := rooms.Replies(house(), rule(), book); e != api.OK || !slices.Equal(l, replies) {
			t.Fatalf("%q, then %q, %d", replies, l, e)
		}
		if l, e := rooms.History(house(), rule(), book, 5); e != api.OK || !slices.Equal(l, history) {
			t.Fatalf("%v, then %v, %d", history, l, e)
		}
		if y, _, _ := rooms.Replay(house(), rule(), book); faceOf(y) != face || faceOf(x) != face {
			t.Fatalf("%s, then %s", face, faceOf(y))
		}
	}
}

func TestP1NilIsEmpty(t *testing.T) {
	for _, doors := range [][]api.Door{nil, {}} {
		x, e := rooms.New(api.House{Rooms: 2, Doors: doors, Infested: 2}, rule())
		if e != api.OK {
			t.Fatalf("New: %d", e)
		}
		check(t, x, reply{"seal 0", "", api.ErrName}, reply{"danger", "none", api.OK}, reply{"permit owl york 0 9 9", "permits 1", api.OK}, reply{"in 5 owl york 0 0", "000005-9", api.OK}, reply{"in 6 owl york 0 1", "000006-2", api.OK}, reply{"danger", "6", api.OK})
		for _, l := range [][]api.Reading{nil, {}} {
			if hour, e := x.Frozen(l, 9); hour != 0 || e != api.ErrInvalid {
				t.Errorf("Frozen = %d, %d", hour, e)
			}
		}
	}
}
