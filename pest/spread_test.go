package pest_test

import (
	"slices"
	"testing"

	"armature/api"
	"armature/pest"
)

func TestP83Spread(t *testing.T) {
	for _, c := range []struct {
		h         api.House
		sealed    []int
		day, want int
	}{
		{three(), nil, 0, 1}, {three(), nil, 1, 7}, {three(), []int{2}, 1, 3}, {three(), []int{2}, 2, 7}, {three(), []int{1, 2}, 1, 3}, {three(), []int{1, 2}, 100, 3}, {three(), []int{0, 1, 2}, 100, 1},
		{row(12, 5), nil, 0, 1}, {row(12, 5), nil, 1, 3}, {row(12, 5), nil, 10, 1<<11 - 1}, {row(12, 5), nil, 11, 1<<12 - 1}, {row(12, 5), nil, 100, 1<<12 - 1}, {row(12, 5), []int{4}, 100, 31}, {row(12, 0), nil, 11, 1<<12 - 1},
		// Doors are open both ways, kept rooms too, and pests begin in several rooms.
		{house(3, 4, 1, door(0, 1, 1), door(1, 2, 1)), nil, 1, 6}, {house(3, 4, 1, door(0, 1, 1), door(1, 2, 1)), nil, 2, 7}, {house(3, 1, 2, door(0, 1, 1), door(1, 2, 1)), nil, 2, 7}, {house(5, 17, 0, door(0, 1, 1), door(1, 2, 1), door(2, 3, 1), door(3, 4, 1)), nil, 1, 27}, {house(3, 0, 7, door(0, 1, 1)), nil, 100, 0}, {house(1, 1, 0), nil, 100, 1},
		{house(2, 1, 0, door(0, 1, 1), door(0, 1, 1)), []int{0}, 1, 3}, {house(2, 1, 0, door(0, 1, 1), door(0, 1, 1)), []int{0, 1}, 1, 1},
	} {
		if n, e := pest.Spread(c.h, c.sealed, c.day); e != api.OK || n != c.want {
			t.Errorf("Spread(%v) = %d, %d", c, n, e)
		}
	}
	for _, day := range wrongUpTo(maxDay) {
		if n, e := pest.Spread(three(), nil, day); n != 0 || e != api.ErrRange {
			t.Errorf("Spread on the day %d = %d, %d", day, n, e)
		}
		if n, e := pest.Spread(three(), []int{3}, day); n != 0 || e != api.ErrName {
			t.Errorf("Spread without a door, on the day %d = %d, %d", day, n, e)
		}
		if n, e := pest.Spread(house(0, 0, 0), nil, day); n != 0 || e != api.ErrInvalid {
			t.Errorf("Spread in no house, on the day %d = %d, %d", day, n, e)
		}
	}
}

// TestP83Days compares all days with a second account.
func TestP83Days(t *testing.T) {
	houses(11, 1500, api.MaxRooms, 20, func(d *dice, h api.House) {
		sealed := d.some(len(h.Doors))
		first := daysOf(h, sealed, h.Infested)
		for _, day := range []int{0, 1, 2, 3, 4, 10, 11, 12, maxDay} {
			want := roomsOn(h, sealed, h.Infested, day)
			if n, e := pest.Spread(h, sealed, day); e != api.OK || n != want {
				t.Fatalf("Spread(%v, %v, %d) = %d, %d; want %d", h, sealed, day, n, e, want)
			}
		}
		comes, e := pest.Comes(h, sealed)
		if last, f := pest.Spread(h, sealed, h.Rooms); e != api.OK || f != api.OK || comes != last {
			t.Fatalf("Comes(%v, %v) = %d, %d; on the day %d it is %d, %d", h, sealed, comes, e, h.Rooms, last, f)
		}
		for room, want := range first {
			n, e := pest.Day(h, sealed, room)
			if want == never && (n != 0 || e != api.ErrNone) || want != never && (n != want || e != api.OK) {
				t.Fatalf("Day(%v, %v, %d) = %d, %d; want %d", h, sealed, room, n, e, want)
			}
			if came := comes>>room&1 == 1; came != (want != never) {
				t.Fatalf("Comes(%v, %v) = %d; want %v", h, sealed, comes, first)
			}
		}
	})
}

// TestP83Stay checks that pests never leave a room, and that they are not there before the first day.
func TestP83Stay(t *testing.T) {
	houses(12, 500, api.MaxRooms, 20, func(d *dice, h api.House) {
		sealed := d.some(len(h.Doors))
		before := 0
		for day := range 14 {
			n, e := pest.Spread(h, sealed, day)
			if e != api.OK || n&before != before {
				t.Fatalf("Spread(%v, %v, %d) = %d, %d after %d", h, sealed, day, n, e, before)
			}
			for room := range h.Rooms {
				if first, e := pest.Day(h, sealed, room); n&^before>>room&1 == 1 && (e != api.OK || first != day) {
					t.Fatalf("Day(%v, %v, %d) = %d, %d; want %d", h, sealed, room, first, e, day)
				}
			}
			before = n
		}
	})
}

func TestP83Day(t *testing.T) {
	for _, c := range []struct {
		sealed     []int
		room, want int
		e          api.Errno
	}{{nil, 0, 0, api.OK}, {nil, 2, 1, api.OK}, {[]int{2}, 2, 2, api.OK}, {[]int{2}, 1, 1, api.OK}, {[]int{1, 2}, 2, 0, api.ErrNone}, {[]int{0, 1, 2}, 0, 0, api.OK}, {[]int{0, 2}, 1, 0, api.ErrNone}} {
		if n, e := pest.Day(three(), c.sealed, c.room); n != c.want || e != c.e {
			t.Errorf("Day(%v) = %d, %d", c, n, e)
		}
	}
	if n, e := pest.Day(row(12, 1), nil, 11); n != 11 || e != api.OK {
		t.Errorf("Day of a row = %d, %d", n, e)
	}
	for _, room := range wrongUpTo(2) {
		for _, sealed := range [][]int{nil, {0}, {0, 0}, {1, 0}, {3}} {
			if n, e := pest.Day(three(), sealed, room); n != 0 || e != api.ErrName {
				t.Errorf("Day(%v, %d) = %d, %d", sealed, room, n, e)
			}
		}
		for _, h := range wrongHouses() {
			if n, e := pest.Day(h, []int{0, 0}, room); n != 0 || e != api.ErrInvalid {
				t.Errorf("Day in no house = %d, %d", n, e)
			}
		}
	}
}

// TestP84Sealed checks that with more sealed doors pests come to no more rooms.
func TestP84Sealed(t *testing.T) {
	houses(13, 500, api.MaxRooms, 20, func(d *dice, h api.House) {
		var sealed []int
		before := 1<<h.Rooms - 1
		for i := range h.Doors {
			if d.throw(2) == 0 {
				sealed = append(sealed, i)
			}
			n, e := pest.Comes(h, sealed)
			if e != api.OK || n&^before != 0 || n&h.Infested != h.Infested {
				t.Fatalf("Comes(%v, %v) = %d, %d after %d", h, sealed, n, e, before)
			}
			before = n
		}
	})
}

func TestP83Parts(t *testing.T) {
	for _, c := range []struct {
		h      api.House
		sealed []int
		want   []int
	}{
		{three(), nil, []int{0, 0, 0}}, {three(), []int{1, 2}, []int{0, 0, 2}}, {three(), []int{0, 1}, []int{0, 1, 0}}, {three(), []int{0, 2}, []int{0, 1, 1}}, {three(), []int{0, 1, 2}, []int{0, 1, 2}}, {three(), []int{0}, []int{0, 0, 0}}, {house(1, 0, 0), nil, []int{0}}, {house(4, 0, 0), nil, []int{0, 1, 2, 3}},
		{row(12, 0), []int{3, 8}, []int{0, 0, 0, 0, 4, 4, 4, 4, 4, 9, 9, 9}}, {house(5, 2, 16, door(1, 4, 1), door(3, 4, 1), door(0, 2, 1)), nil, []int{0, 1, 0, 1, 1}}, {house(6, 0, 0, door(4, 5, 0), door(2, 5, 0), door(2, 3, 0)), nil, []int{0, 1, 2, 2, 2, 2}},
	} {
		if l, e := pest.Parts(c.h, c.sealed); e != api.OK || !slices.Equal(l, c.want) {
			t.Errorf("Parts(%v) = %v, %d", c, l, e)
		}
	}
	houses(14, 1000, api.MaxRooms, 20, func(d *dice, h api.House) {
		sealed := d.some(len(h.Doors))
		var want []int
		for room := range h.Rooms {
			want = append(want, slices.IndexFunc(daysOf(h, sealed, 1<<room), func(day int) bool { return day != never }))
		}
		if l, e := pest.Parts(h, sealed); e != api.OK || !slices.Equal(l, want) {
			t.Fatalf("Parts(%v, %v) = %v, %d; want %v", h, sealed, l, e, want)
		}
	})
}

func TestP83Fits(t *testing.T) {
	two := []api.Trap{trap(2, 0, false), trap(1, 1, true)}
	for _, c := range []struct {
		h     api.House
		l     []api.Trap
		begin int
		want  bool
	}{
		{three(), two, 3, true}, {three(), two, 1, true}, {three(), two, 2, true}, {three(), two, 4, false}, {three(), two, 0, false}, {three(), two, 7, false}, {three(), nil, 0, true}, {three(), nil, 7, true}, {three(), []api.Trap{trap(0, 100, false)}, 0, true}, {three(), []api.Trap{trap(0, 100, true)}, 0, false},
		// Whether pests were there is told of the trap's day, and a beginning may have kept rooms and leave the infested ones out.
		{row(12, 1), []api.Trap{trap(11, 10, false), trap(11, 11, true)}, 1, true}, {row(12, 1), []api.Trap{trap(11, 11, false)}, 1, false}, {row(12, 1), []api.Trap{trap(11, 10, true)}, 1, false}, {row(12, 1), []api.Trap{trap(0, 10, false), trap(0, 11, true), trap(0, 100, true)}, 1 << 11, true}, {row(12, 1), []api.Trap{trap(0, 0, true)}, 2, false}, {row(12, 1), []api.Trap{trap(0, 0, true), trap(0, 0, false)}, 1, false}, {house(1, 0, 0), slices.Repeat([]api.Trap{trap(0, 100, true)}, maxTraps), 1, true}, {house(12, 0, 0), []api.Trap{trap(11, 100, true)}, 4095, true},
	} {
		if ok, e := pest.Fits(c.h, c.l, c.begin); e != api.OK || ok != c.want {
			t.Errorf("Fits(%v) = %t, %d", c, ok, e)
		}
	}
}

func fitsOf(h api.House, l []api.Trap, begin int) bool {
	far := daysOf(h, nil, begin)
	for _, t := range l {
		if far[t.Room] <= t.Day != t.Found {
			return false
		}
	}
	return true
}

// TestP83FitsAll compares all beginnings with a second account.
func TestP83FitsAll(t *testing.T) {
	var count [3]int
	houses(15, 300, 7, 9, func(d *dice, h api.House) {
		l := d.traps(h)
		for begin := range 1 << h.Rooms {
			want := fitsOf(h, l, begin)
			if ok, e := pest.Fits(h, l, begin); e != api.OK || ok != want {
				t.Fatalf("Fits(%v, %v, %d) = %t, %d", h, l, begin, ok, e)
			}
		}
		var want []int
		for room := range h.Rooms {
			if fitsOf(h, l, 1<<room) {
				want = append(want, room)
			}
		}
		if got, e := pest.Begins(h, l); e != api.OK || !slices.Equal(got, want) {
			t.Fatalf("Begins(%v, %v) = %v, %d; want %v", h, l, got, e, want)
		}
		count[min(len(want), 2)]++
	})
	if slices.Min(count[:]) < 40 {
		t.Errorf("traps with %v beginnings", count)
	}
}

func TestP83Begins(t *testing.T) {
	for _, c := range []struct {
		h    api.House
		l    []api.Trap
		want []int
	}{
		{three(), []api.Trap{trap(2, 0, false), trap(1, 1, true)}, []int{0, 1}}, {three(), nil, []int{0, 1, 2}}, {house(12, 1, 2), nil, []int{0, 1, 2, 3, 4, 5, 6, 7, 8, 9, 10, 11}}, {three(), []api.Trap{trap(0, 1, false)}, nil}, {row(12, 1), []api.Trap{trap(6, 3, true), trap(6, 2, false)}, []int{3, 9}}, {row(12, 1), []api.Trap{trap(11, 0, true)}, []int{11}},
	} {
		if l, e := pest.Begins(c.h, c.l); e != api.OK || !slices.Equal(l, c.want) {
			t.Errorf("Begins(%v) = %v, %d", c, l, e)
		}
	}
}

func TestP83TrapErrors(t *testing.T) {
	check := func(h api.House, l []api.Trap, begin int, want api.Errno) {
		t.Helper()
		if ok, e := pest.Fits(h, l, begin); ok || e != want {
			t.Errorf("Fits(%v, %v, %d) = %t, %d; want %d", h, l, begin, ok, e, want)
		}
	}
	checkBoth := func(h api.House, l []api.Trap, want api.Errno) {
		t.Helper()
		if got, e := pest.Begins(h, l); len(got) > 0 || e != want {
			t.Errorf("Begins(%v, %v) = %v, %d; want %d", h, l, got, e, want)
		}
		check(h, l, 1, want)
	}
	good := trap(0, 0, true)
	for _, n := range wrongUpTo(2) {
		for _, l := range [][]api.Trap{{trap(n, 0, true)}, {good, trap(n, 0, false)}, {trap(n, 0, true), good}} {
			checkBoth(three(), l, api.ErrRange)
		}
	}
	for _, n := range wrongUpTo(maxDay) {
		for _, l := range [][]api.Trap{{trap(0, n, true)}, {good, trap(0, n, false)}, {trap(0, n, true), good}} {
			checkBoth(three(), l, api.ErrRange)
		}
	}
	for _, n := range []int{maxTraps + 1, 1 << 12} {
		checkBoth(three(), slices.Repeat([]api.Trap{good}, n), api.ErrRange)
	}
	for _, n := range wrongUpTo(7) {
		check(three(), nil, n, api.ErrRange)
		check(three(), []api.Trap{good}, n, api.ErrRange)
	}
	check(house(12, 0, 0), nil, 4096, api.ErrRange)
	check(house(1, 0, 0), nil, 2, api.ErrRange)
	for _, h := range wrongHouses() {
		for _, l := range [][]api.Trap{nil, {good}, {trap(99, 999, true)}} {
			checkBoth(h, l, api.ErrInvalid)
			check(h, l, -1, api.ErrInvalid)
		}
	}
}
