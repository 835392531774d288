package rooms_test

import (
	"fmt"
	"math"
	"slices"
	"testing"

	"armature/api"
	"armature/cold"
	"armature/rooms"
)

func wrongHouses() []api.House {
	door := func(a, b, cost int) api.House {
		return api.House{Rooms: 3, Doors: []api.Door{{A: a, B: b, Cost: cost}}, Infested: 1}
	}
	return []api.House{{}, {Rooms: -1}, {Rooms: api.MaxRooms + 1}, {Rooms: math.MaxInt}, {Rooms: 2, Infested: 4}, {Rooms: 2, Kept: -1}, {Rooms: 2, Infested: 1, Kept: 3}, {Rooms: 2, Doors: make([]api.Door, 1)}, {Rooms: 2, Doors: slices.Repeat([]api.Door{{B: 1}}, api.MaxDoors+1)}, door(1, 0, 1), door(0, 3, 1), door(-1, 1, 1), door(1, 1, 1), door(0, 1, -1), door(0, 1, 1001)}
}

func wrongRules() []api.Freeze {
	return []api.Freeze{{}, {Temp: -1001, Hours: 1, Times: 1}, {Temp: 1, Hours: 1, Times: 1}, {Hours: 0, Times: 1}, {Hours: 10001, Times: 1}, {Hours: 1, Times: 0}, {Hours: 1, Times: 6}, {Hours: 1, Times: 1, Thaw: -1}, {Hours: 1, Times: 1, Warm: 1001}, {Temp: math.MinInt, Hours: math.MaxInt, Times: 1}}
}

func TestP101New(t *testing.T) {
	for _, h := range wrongHouses() {
		for _, f := range append(wrongRules(), rule()) {
			if x, e := rooms.New(h, f); x != nil || e != api.ErrInvalid {
				t.Errorf("New of the house %v: %d", h, e)
			}
		}
	}
	for _, f := range wrongRules() {
		if x, e := rooms.New(house(), f); x != nil || e != api.ErrInvalid {
			t.Errorf("New of the rule %v: %d", f, e)
		}
	}
	for _, h := range []api.House{house(), {Rooms: 1}, {Rooms: api.MaxRooms, Doors: slices.Repeat([]api.Door{{B: 11, Cost: 1000}}, api.MaxDoors), Infested: 1<<11 - 1, Kept: 1 << 11}} {
		x, e := rooms.New(h, rule())
		if e != api.OK || faceOf(x) != newAccount().face() {
			t.Errorf("New of %v: %d", h, e)
		}
		check(t, x, reply{fmt.Sprintf("seal %d", len(h.Doors)), "", api.ErrName}, reply{fmt.Sprintf("in 5 owl york 0 %d", h.Rooms), "", api.ErrRange}, reply{fmt.Sprintf("in 5 owl york 0 %d", h.Rooms-1), "", api.ErrPermit})
		for door := range h.Doors {
			check(t, x, reply{fmt.Sprintf("seal %d", door), fmt.Sprintf("sealed %d", door+1), api.OK})
		}
	}
}

func TestP102Getters(t *testing.T) {
	x := begun(t, "day 3", "permit owl york 0 9 2", "permit fox bath 1 2 1", "in 50 owl york 3 0", "in 7 fox bath 2 1", "in 9 owl york 0 1", "part 7 whole skin", "seal 3", "seal 0", "seal 2", "open 2", "lend 9 whole kew 5", "lend 7 skin bath 8", "day 4", "back 9 whole")
	if d := x.Day(); d != 4 {
		t.Errorf("Day = %d", d)
	}
	if l := x.Numbers(); !slices.Equal(l, []int{7, 9, 50}) {
		t.Errorf("Numbers = %v", l)
	}
	if l := x.Pieces(); !slices.Equal(l, []api.Piece{{Kind: "owl", Place: "york", Day: 3}, {Kind: "fox", Place: "bath", Day: 2}, {Kind: "owl", Place: "york"}}) {
		t.Errorf("Pieces = %v", l)
	}
	if l := x.Permits(); fmt.Sprint(l) != "[{[owl] york 0 9 2} {[fox] bath 1 2 1}]" {
		t.Errorf("Permits = %v", l)
	}
	if l := x.Loans(); !slices.Equal(l, []api.Loan{{Piece: "000009-3-whole", To: "kew", Out: 3, Due: 5, Back: 4}, {Piece: "000007-6-skin", To: "bath", Out: 3, Due: 8}}) {
		t.Errorf("Loans = %v", l)
	}
	if l := x.Sealed(); !slices.Equal(l, []int{0, 3}) {
		t.Errorf("Sealed = %v", l)
	}
	label := "[{kind fox} {number 0000076} {place bath} {taken 2}]"
	if p, ok := x.Parts(7); !ok || fmt.Sprint(p) != "[{whole -1 "+label+"} {skin 0 "+label+"}]" {
		t.Errorf("Parts = %v, %t", p, ok)
	}
	for _, n := range []int{0, 8, 49, 51, -7, 1000007, math.MinInt, math.MaxInt} {
		if p, ok := x.Parts(n); len(p) != 0 || ok {
			t.Errorf("Parts of %d: %v, %t", n, p, ok)
		}
	}
}

func TestP102Frozen(t *testing.T) {
	x := begun(t)
	l := []api.Reading{{Temp: 200}, {Hour: 5, Temp: -300}, {Hour: 60, Temp: -180}, {Hour: 70, Temp: -179}}
	for _, c := range []struct {
		l    []api.Reading
		end  int
		hour int
		e    api.Errno
	}{
		{l, 90, 53, api.OK}, {l[:2], 53, 53, api.OK}, {l[:2], 52, 0, api.ErrNone}, {l[2:], 200, 0, api.ErrNone}, {l[2:3], 108, 108, api.OK}, {nil, 90, 0, api.ErrInvalid}, {[]api.Reading{{Hour: -1}}, 90, 0, api.ErrInvalid}, {[]api.Reading{l[1], l[0]}, -1, 0, api.ErrInvalid}, {l, 69, 0, api.ErrRange}, {l, api.MaxHour + 1, 0, api.ErrRange}, {l, -1, 0, api.ErrRange},
	} {
		if hour, e := x.Frozen(c.l, c.end); hour != c.hour || e != c.e {
			t.Errorf("Frozen(%v, %d) = %d, %d; want %d, %d", c.l, c.end, hour, e, c.hour, c.e)
		}
	}
	// Each rule is kept as it was given, and goes into copies.
	for _, f := range []api.Freeze{{Temp: -180, Hours: 10, Times: 2, Thaw: 3, Warm: 100}, {Temp: 100, Hours: 3, Times: 5, Warm: 200}, {Temp: -1000, Hours: 10000, Times: 1}, {Temp: -300, Hours: 55, Times: 1, Thaw: 7, Warm: 1000}} {
		y, e := rooms.New(house(), f)
		if e != api.OK {
			t.Fatalf("New: %d", e)
		}
		want, wantE := cold.Killed(f, l, 90)
		for _, z := range []*rooms.Rooms{y, y.Copy()} {
			if hour, e := z.Frozen(l, 90); hour != want || e != wantE {
				t.Errorf("Frozen by %v: %d, %d; want %d, %d", f, hour, e, want, wantE)
			}
		}
	}
}

func TestP102Nil(t *testing.T) {
	var none *rooms.Rooms
	for _, line := range []string{"danger", "day 0", "", "dance", "in 5 owl york 0 2", "part 5 whole skull"} {
		if r, e := none.Do(line); r != "" || e != api.ErrState {
			t.Errorf("Do(%q) = %q, %d", line, r, e)
		}
	}
	if s := faceOf(none); s != newAccount().face() {
		t.Errorf("no rooms are %s", s)
	}
	if p, ok := none.Parts(0); len(p) != 0 || ok {
		t.Errorf("Parts = %v, %t", p, ok)
	}
	if y := none.Copy(); y != nil {
		t.Errorf("Copy = %v", y)
	}
	for _, l := range [][]api.Reading{nil, {{Temp: -300}}} {
		if hour, e := none.Frozen(l, 90); hour != 0 || e != api.ErrState {
			t.Errorf("Frozen = %d, %d", hour, e)
		}
	}
}

// TestP105NotSetUp asks that rooms which New has not made have no book that could not be done again.
func TestP105NotSetUp(t *testing.T) {
	x := &rooms.Rooms{}
	for _, y := range []*rooms.Rooms{x, x.Copy()} {
		check(t, y, refused(api.ErrState, "day 5", "permit owl york 0 9 1", "in 5 owl york 0 0", "danger", "seal 0", "dance", "")...)
		if hour, e := y.Frozen([]api.Reading{{Temp: -300}}, 90); hour != 0 || e != api.ErrState {
			t.Errorf("Frozen = %d, %d", hour, e)
		}
		if s := faceOf(y); s != newAccount().face() {
			t.Errorf("rooms that are not set up are %s", s)
		}
	}
}

// TestP102Copy does each of some lines in rooms, or in a copy of them, and asks that the other ones stay.
func TestP102Copy(t *testing.T) {
	lines := []string{"day 2", "permit fox bath 1 2 1", "permit emu kew 3 4 0", "in 8 owl york 0 0", "in 9 owl york 1 3", "part 5 jaw claw", "write 5 jaw a 1", "lend 5 skin bath 9", "lend 6 whole york 8", "back 5 skull", "renew 5 skull 20", "move 5 1", "seal 0", "seal 2", "open 1", "danger"}
	// As many of each as leave room for more in memory.
	begin := append(owl(), "permit owl york 0 9 9", "permit hen york 0 9 1", "in 6 owl york 0 0", "in 7 owl york 0 0", "lend 5 jaw kew 9", "lend 7 whole kew 9", "lend 5 skull kew 9", "day 1", "seal 1", "seal 3", "danger")
	for _, line := range lines {
		for _, other := range lines {
			x := begun(t, begin...)
			y := x.Copy()
			first := faceOf(x)
			if faceOf(y) != first {
				t.Fatalf("a copy of %s is %s", first, faceOf(y))
			}
			done(t, x, line)
			then := faceOf(x)
			if faceOf(y) != first || then == first {
				t.Fatalf("%s in the rooms made of the copy %s", line, faceOf(y))
			}
			done(t, y, other)
			z := begun(t, append(begin, other)...)
			if faceOf(x) != then || faceOf(y) != faceOf(z) {
				t.Fatalf("%s in the copy made of the rooms %s", other, faceOf(x))
			}
		}
	}
}
