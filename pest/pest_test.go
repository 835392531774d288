package pest_test

import (
	"slices"
	"testing"

	"armature/api"
	"armature/pest"
)

func TestP81Valid(t *testing.T) {
	for _, h := range []api.House{three(), house(1, 0, 0), house(1, 1, 0), house(1, 0, 1), house(12, 4095, 0), house(12, 0, 4095), house(12, 4094, 1), house(12, 1<<11, 1<<10), house(2, 1, 2, door(0, 1, 0)), house(2, 3, 0, door(0, 1, maxCost)), house(12, 0, 0, door(10, 11, 5), door(0, 11, 5)), house(2, 0, 0, slices.Repeat([]api.Door{door(0, 1, 1)}, 40)...), row(12, 1000), full(1000), full(0)} {
		if !pest.Valid(h) {
			t.Errorf("Valid(%v) = false", h)
		}
	}
	for _, h := range wrongHouses() {
		if pest.Valid(h) {
			t.Errorf("Valid(%v) = true", h)
		}
	}
}

func TestP81Cost(t *testing.T) {
	for _, c := range []struct {
		h     api.House
		doors []int
		want  int
	}{{three(), nil, 0}, {three(), []int{0}, 3}, {three(), []int{1}, 2}, {three(), []int{0, 2}, 4}, {three(), []int{0, 1, 2}, 6}, {house(1, 0, 0), nil, 0}, {row(12, 1000), []int{0, 10}, 2000}, {house(2, 1, 2, door(0, 1, 0)), []int{0}, 0}} {
		if n, e := pest.Cost(c.h, c.doors); e != api.OK || n != c.want {
			t.Errorf("Cost(%v) = %d, %d", c, n, e)
		}
	}
	houses(1, 300, api.MaxRooms, api.MaxDoors, func(d *dice, h api.House) {
		doors := d.some(len(h.Doors))
		if n, e := pest.Cost(h, doors); e != api.OK || n != costOf(h, doors) {
			t.Fatalf("Cost(%v, %v) = %d, %d", h, doors, n, e)
		}
	})
}

// listCalls are the calls that take a list of doors, with the other arguments right; each says whether its result is zero, and its error.
func listCalls() map[string]func(h api.House, doors []int) (bool, api.Errno) {
	return map[string]func(h api.House, doors []int) (bool, api.Errno){
		"Spread": func(h api.House, doors []int) (bool, api.Errno) { n, e := pest.Spread(h, doors, 1); return n == 0, e },
		"Comes":  func(h api.House, doors []int) (bool, api.Errno) { n, e := pest.Comes(h, doors); return n == 0, e },
		"Day":    func(h api.House, doors []int) (bool, api.Errno) { n, e := pest.Day(h, doors, 0); return n == 0, e },
		"Cuts":   func(h api.House, doors []int) (bool, api.Errno) { ok, e := pest.Cuts(h, doors); return !ok, e },
		"Cost":   func(h api.House, doors []int) (bool, api.Errno) { n, e := pest.Cost(h, doors); return n == 0, e },
		"Parts":  func(h api.House, doors []int) (bool, api.Errno) { l, e := pest.Parts(h, doors); return len(l) == 0, e },
	}
}

func TestP81DoorErrors(t *testing.T) {
	for name, call := range listCalls() {
		check := func(h api.House, doors []int, want api.Errno) {
			t.Helper()
			if zero, e := call(h, doors); !zero || e != want {
				t.Errorf("%s(%v, %v): zero is %t, the error %d; want %d", name, h, doors, zero, e, want)
			}
		}
		for _, doors := range unknown(2) {
			check(three(), doors, api.ErrName)
			check(house(2, 0, 0), doors, api.ErrName)
		}
		for _, doors := range unsorted() {
			check(three(), doors, api.ErrRange)
		}
		check(house(1, 1, 0), []int{0}, api.ErrName)
		for _, h := range wrongHouses() {
			for _, doors := range [][]int{nil, {0}, {-1}, {1, 0}, {0, 0}, {1 << 40}} {
				check(h, doors, api.ErrInvalid)
			}
		}
	}
}

func TestP83Without(t *testing.T) {
	for _, c := range []struct {
		door int
		want api.House
	}{{0, house(3, 1, 4, door(1, 2, 2), door(0, 2, 1))}, {1, house(3, 1, 4, door(0, 1, 3), door(0, 2, 1))}, {2, house(3, 1, 4, door(0, 1, 3), door(1, 2, 2))}} {
		if h, e := pest.Without(three(), c.door); e != api.OK || !sameHouse(h, c.want) {
			t.Errorf("Without(%d) = %v, %d", c.door, h, e)
		}
	}
	houses(2, 100, api.MaxRooms, api.MaxDoors, func(d *dice, h api.House) {
		for i := range h.Doors {
			want := house(h.Rooms, h.Infested, h.Kept, h.Doors...)
			want.Doors = slices.Delete(want.Doors, i, i+1)
			if got, e := pest.Without(h, i); e != api.OK || !sameHouse(got, want) {
				t.Fatalf("Without(%v, %d) = %v, %d", h, i, got, e)
			}
		}
	})
	for _, n := range wrongUpTo(2) {
		if h, e := pest.Without(three(), n); e != api.ErrName || !isZero(h) {
			t.Errorf("Without(%d) = %v, %d", n, h, e)
		}
	}
	if h, e := pest.Without(house(2, 1, 2), 0); e != api.ErrName || !isZero(h) {
		t.Errorf("Without of no doors = %v, %d", h, e)
	}
	for _, h := range wrongHouses() {
		for _, n := range []int{0, -1, 99} {
			if got, e := pest.Without(h, n); e != api.ErrInvalid || !isZero(got) {
				t.Errorf("Without of no house = %v, %d", got, e)
			}
		}
	}
}
