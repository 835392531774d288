package pest_test

import (
	"slices"
	"testing"

	"armature/api"
	"armature/pest"
)

// ladder is a house in which a way that is taken at first must be given up in part.
func ladder() api.House {
	return house(6, 1, 32, door(0, 1, 10), door(0, 2, 10), door(1, 3, 4), door(1, 4, 8), door(2, 4, 9), door(3, 5, 10), door(3, 4, 6), door(4, 5, 10))
}

func TestP82Cuts(t *testing.T) {
	for _, c := range []struct {
		h     api.House
		doors []int
		want  bool
	}{
		{three(), []int{0, 2}, true}, {three(), []int{1, 2}, true}, {three(), []int{0, 1, 2}, true}, {three(), []int{0}, false}, {three(), []int{0, 1}, false}, {three(), nil, false},
		{house(3, 0, 7, door(0, 1, 1)), nil, true}, {house(3, 7, 0, door(0, 1, 1)), nil, true}, {house(3, 1, 4, door(0, 1, 1)), nil, true}, {house(2, 1, 2, door(0, 1, 0)), nil, false}, {house(2, 1, 2, door(0, 1, 0)), []int{0}, true}, {row(12, 1), []int{10}, true}, {row(12, 1), nil, false}, {house(2, 1, 2, door(0, 1, 1), door(0, 1, 1)), []int{1}, false},
	} {
		if ok, e := pest.Cuts(c.h, c.doors); e != api.OK || ok != c.want {
			t.Errorf("Cuts(%v) = %t, %d", c, ok, e)
		}
	}
	houses(21, 1000, api.MaxRooms, 20, func(d *dice, h api.House) {
		doors := d.some(len(h.Doors))
		if ok, e := pest.Cuts(h, doors); e != api.OK || ok != isCut(h, doors) {
			t.Fatalf("Cuts(%v, %v) = %t, %d", h, doors, ok, e)
		}
	})
}

// TestP82AllCuts looks at all lists of doors for the cheapest and the shortest cut.
func TestP82AllCuts(t *testing.T) {
	houses(22, 250, 6, 8, func(d *dice, h api.House) {
		least, fewest := maxCost*api.MaxDoors, api.MaxDoors
		for doors := range subsets(len(h.Doors)) {
			if isCut(h, doors) {
				least, fewest = min(least, costOf(h, doors)), min(fewest, len(doors))
			}
		}
		n, e := pest.Least(h)
		f, g := pest.Fewest(h)
		if e != api.OK || g != api.OK || n != least || f != fewest {
			t.Fatalf("Least(%v) = %d, %d; want %d; Fewest = %d, %d; want %d", h, n, e, least, f, g, fewest)
		}
	})
}

// TestP84Needed looks at all cuts of the least cost: what costs something in one of them is needed.
func TestP84Needed(t *testing.T) {
	cheapest := 0
	houses(26, 250, 6, 8, func(d *dice, h api.House) {
		least := leastOf(h)
		needed, e := pest.Needed(h)
		if e != api.OK {
			t.Fatalf("Needed(%v) = %v, %d", h, needed, e)
		}
		for doors := range subsets(len(h.Doors)) {
			if !isCut(h, doors) || costOf(h, doors) != least {
				continue
			}
			for _, i := range doors {
				if h.Doors[i].Cost > 0 && !slices.Contains(needed, i) {
					t.Fatalf("Needed(%v) = %v; the cut %v is a cheapest one", h, needed, doors)
				}
			}
			if least > 0 {
				cheapest++
			}
		}
	})
	if cheapest < 100 {
		t.Errorf("%d cheapest cuts", cheapest)
	}
}

// checkCheapest checks a cut of which the least cost is known.
func checkCheapest(t *testing.T, h api.House, least int) {
	t.Helper()
	c, e := pest.Cheapest(h)
	value, ok := 0, len(c.Amount) == len(h.Doors)
	if ok {
		value, ok = flowOf(h, c.Amount)
	}
	if e != api.OK || !ok || value != least || !isCut(h, c.Doors) || costOf(h, c.Doors) != least {
		t.Fatalf("Cheapest(%v) = %v, %d; want the cost %d", h, c, e, least)
	}
	for i := range c.Doors {
		if i > 0 && c.Doors[i-1] >= c.Doors[i] {
			t.Fatalf("Cheapest(%v) = %v", h, c)
		}
		if isCut(h, slices.Delete(slices.Clone(c.Doors), i, i+1)) {
			t.Fatalf("Cheapest(%v) = %v, and the door %d need not be sealed", h, c, c.Doors[i])
		}
	}
	if n, e := pest.Value(h, c.Amount); e != api.OK || n != least || !pest.Proves(h, c) {
		t.Fatalf("Value(%v, %v) = %d, %d", h, c, n, e)
	}
	if n, e := pest.Least(h); e != api.OK || n != least {
		t.Fatalf("Least(%v) = %d, %d; want %d", h, n, e, least)
	}
}

func TestP82Cheapest(t *testing.T) {
	for _, c := range []struct {
		h             api.House
		least, fewest int
		needed        []int
	}{
		{three(), 3, 2, []int{0, 1, 2}}, {ladder(), 19, 2, []int{0, 1, 2, 3, 4, 5, 6, 7}}, {row(12, 1000), 1000, 1, []int{0, 1, 2, 3, 4, 5, 6, 7, 8, 9, 10}},
		{house(2, 1, 2, slices.Repeat([]api.Door{door(0, 1, maxCost)}, 40)...), 40000, 40, []int{0, 1, 2, 3, 4, 5, 6, 7, 8, 9, 10, 11, 12, 13, 14, 15, 16, 17, 18, 19, 20, 21, 22, 23, 24, 25, 26, 27, 28, 29, 30, 31, 32, 33, 34, 35, 36, 37, 38, 39}},
		// A door need not be in a cheapest cut to be needed, and one of two ways in a row is enough.
		{house(3, 1, 4, door(0, 1, 5), door(1, 2, 2)), 2, 1, []int{0, 1}}, {house(3, 1, 4, door(0, 1, 5), door(0, 1, 5), door(1, 2, 5)), 5, 1, []int{2}}, {house(3, 1, 4, door(0, 1, 2), door(0, 1, 2), door(1, 2, 5)), 4, 1, []int{0, 1, 2}},
		// Doors that cost nothing.
		{house(2, 1, 2, door(0, 1, 0)), 0, 1, nil}, {house(3, 1, 4, door(0, 1, 0), door(1, 2, 3)), 0, 1, nil}, {house(3, 1, 4, door(0, 1, 3), door(1, 2, 0), door(0, 2, 0)), 0, 2, nil}, {house(2, 1, 2, door(0, 1, 0), door(0, 1, 7)), 7, 2, []int{1}},
		// Nothing to cut.
		{house(1, 0, 0), 0, 0, nil}, {house(3, 0, 7, door(0, 1, 4), door(1, 2, 4)), 0, 0, nil}, {house(3, 7, 0, door(0, 1, 4), door(1, 2, 0)), 0, 0, nil}, {house(3, 1, 0, door(0, 1, 0), door(1, 2, 5)), 0, 0, nil}, {house(3, 0, 4, door(0, 1, 5), door(1, 2, 0)), 0, 0, nil}, {house(4, 1, 8, door(0, 1, 4), door(2, 3, 4)), 0, 0, nil},
		// Several infested and kept rooms, and doors among those.
		{house(4, 3, 12, door(0, 1, 9), door(2, 3, 9), door(0, 2, 1), door(1, 2, 2), door(1, 3, 4)), 7, 3, []int{2, 3, 4}}, {house(4, 9, 4, door(0, 1, 4), door(1, 3, 4), door(1, 2, 4)), 4, 1, []int{2}}, {house(4, 2, 9, door(0, 1, 3), door(0, 3, 100), door(2, 3, 8), door(1, 2, 2)), 5, 2, []int{0, 2, 3}},
	} {
		checkCheapest(t, c.h, c.least)
		if n, e := pest.Fewest(c.h); e != api.OK || n != c.fewest {
			t.Errorf("Fewest(%v) = %d, %d; want %d", c.h, n, e, c.fewest)
		}
		if l, e := pest.Needed(c.h); e != api.OK || !slices.Equal(l, c.needed) {
			t.Errorf("Needed(%v) = %v, %d; want %v", c.h, l, e, c.needed)
		}
	}
	for _, c := range []struct {
		h     api.House
		doors []int
	}{{three(), []int{1, 2}}, {house(2, 1, 2, door(0, 1, 0)), []int{0}}, {house(3, 1, 0, door(0, 1, 0)), nil}, {house(3, 0, 1, door(0, 1, 0)), nil}} {
		if cut, e := pest.Cheapest(c.h); e != api.OK || !slices.Equal(cut.Doors, c.doors) || len(cut.Amount) != len(c.h.Doors) {
			t.Errorf("Cheapest(%v) = %v, %d", c.h, cut, e)
		}
	}
}

// TestP82CheapestAll compares with the costs of the doors around all sets of rooms.
func TestP82CheapestAll(t *testing.T) {
	for _, size := range [][3]int{{600, 5, 10}, {300, 8, 20}, {40, api.MaxRooms, api.MaxDoors}} {
		houses(dice(23+size[0]), size[0], size[1], size[2], func(d *dice, h api.House) {
			least := leastOf(h)
			checkCheapest(t, h, least)
			if n, e := pest.Fewest(h); e != api.OK || n != leastOf(each(h)) {
				t.Fatalf("Fewest(%v) = %d, %d", h, n, e)
			}
			if size[0] < 100 {
				return
			}
			var want []int
			for i := range h.Doors {
				if fewer := house(h.Rooms, h.Infested, h.Kept, slices.Delete(slices.Clone(h.Doors), i, i+1)...); leastOf(fewer) < least {
					want = append(want, i)
				}
			}
			if l, e := pest.Needed(h); e != api.OK || !slices.Equal(l, want) {
				t.Fatalf("Needed(%v) = %v, %d; want %v", h, l, e, want)
			}
		})
	}
}

func TestP82Flow(t *testing.T) {
	two := house(3, 3, 4, door(0, 1, 5), door(1, 2, 5), door(0, 2, 5))
	for _, c := range []struct {
		h       api.House
		amounts []int
		value   int
		want    bool
	}{
		{three(), []int{2, 2, 1}, 3, true}, {three(), []int{2, 2, -1}, 1, true}, {three(), []int{0, 0, 0}, 0, true}, {three(), []int{1, 1, 0}, 1, true}, {three(), []int{0, 0, -1}, -1, true}, {three(), []int{-2, -2, 1}, -1, true}, {three(), []int{-2, -2, -1}, -3, true}, {three(), []int{1, 1, -1}, 0, true},
		{three(), []int{3, 2, 1}, 0, false}, {three(), []int{1, 2, 1}, 0, false}, {three(), []int{3, 3, 1}, 0, false}, {three(), []int{0, 0, 2}, 0, false}, {three(), []int{0, 0, -2}, 0, false}, {three(), []int{-3, -3, 0}, 0, false}, {three(), []int{1, -1, 0}, 0, false}, {three(), []int{1000, 1000, 0}, 0, false}, {three(), []int{-1000, -1000, 1}, 0, false},
		// Between infested rooms, and between kept ones, anything may go.
		{two, []int{5, 2, 3}, 5, true}, {two, []int{-5, 0, 0}, 0, true}, {two, []int{5, -5, 5}, 0, true}, {two, []int{6, 0, 0}, 0, false}, {house(3, 1, 6, door(0, 1, 5), door(1, 2, 5), door(0, 2, 5)), []int{1, 5, 2}, 3, true}, {house(2, 1, 0, door(0, 1, 5)), []int{1}, 0, false}, {house(2, 0, 2, door(0, 1, 5)), []int{1}, 0, false}, {house(2, 0, 0, door(0, 1, 5)), []int{0}, 0, true}, {house(2, 0, 0, door(0, 1, 5)), []int{1}, 0, false}, {house(2, 3, 0, door(0, 1, 5)), []int{5}, 0, true}, {house(2, 0, 3, door(0, 1, 5)), []int{-5}, 0, true}, {house(3, 0, 0, door(0, 1, 5), door(1, 2, 5), door(0, 2, 5)), []int{4, 4, -4}, 0, true}, {house(1, 1, 0), nil, 0, true}, {house(2, 1, 2, door(0, 1, 1000)), []int{-1000}, -1000, true}, {house(2, 2, 1, door(0, 1, 1000)), []int{-1000}, 1000, true}, {house(12, 1<<11, 1<<10, door(10, 11, 1), door(9, 11, 1), door(9, 10, 1)), []int{-1, -1, 1}, 2, true},
	} {
		ok, e := pest.Flow(c.h, c.amounts)
		n, f := pest.Value(c.h, c.amounts)
		wantError := api.OK
		if !c.want {
			wantError = api.ErrState
		}
		if e != api.OK || ok != c.want || n != c.value || f != wantError {
			t.Errorf("Flow(%v) = %t, %d; Value = %d, %d", c, ok, e, n, f)
		}
	}
}

// TestP82AllFlows looks at all amounts of small houses: none of those that are a flow is above a cut's cost.
func TestP82AllFlows(t *testing.T) {
	houses(24, 150, 4, 4, func(d *dice, h api.House) {
		for i := range h.Doors {
			h.Doors[i].Cost %= 3
		}
		least, most := leastOf(h), -1
		amounts := slices.Repeat([]int{-3}, len(h.Doors))
		for more := true; more; more = count(amounts) {
			want, isFlow := flowOf(h, amounts)
			ok, e := pest.Flow(h, amounts)
			n, f := pest.Value(h, amounts)
			if e != api.OK || ok != isFlow || n != want || (f == api.OK) != isFlow || !isFlow && f != api.ErrState {
				t.Fatalf("Flow(%v, %v) = %t, %d; Value = %d, %d; want %d, %t", h, amounts, ok, e, n, f, want, isFlow)
			}
			if isFlow {
				most = max(most, n)
			}
		}
		if most != least {
			t.Fatalf("%v has flows up to %d and cuts from %d on", h, most, least)
		}
	})
}

// count makes numbers from -3 to 3 the next ones; after the last ones it returns false.
func count(l []int) bool {
	for i := range l {
		if l[i]++; l[i] <= 3 {
			return true
		}
		l[i] = -3
	}
	return false
}

func TestP82FlowErrors(t *testing.T) {
	check := func(h api.House, amounts []int, want api.Errno) {
		t.Helper()
		if ok, e := pest.Flow(h, amounts); ok || e != want {
			t.Errorf("Flow(%v, %v) = %t, %d; want %d", h, amounts, ok, e, want)
		}
		if n, e := pest.Value(h, amounts); n != 0 || e != want {
			t.Errorf("Value(%v, %v) = %d, %d; want %d", h, amounts, n, e, want)
		}
	}
	for _, l := range [][]int{nil, {0}, {2, 2}, {2, 2, 1, 0}, {0, 0, 0, 0}, make([]int, 40), make([]int, 41), make([]int, 1<<12)} {
		check(three(), l, api.ErrRange)
	}
	check(house(1, 0, 0), []int{0}, api.ErrRange)
	for _, n := range append(farNumbers(), maxCost+1, -maxCost-1) {
		for _, l := range [][]int{{n, 0, 0}, {0, n, 0}, {0, 0, n}, {n, n, n}} {
			check(three(), l, api.ErrRange)
		}
	}
	for _, h := range wrongHouses() {
		for _, l := range [][]int{nil, {0}, {0, 0, 0}, {5000}} {
			check(h, l, api.ErrInvalid)
		}
	}
}

func TestP82Proves(t *testing.T) {
	none := house(3, 0, 7, door(0, 1, 3), door(1, 2, 0))
	for _, c := range []struct {
		h              api.House
		doors, amounts []int
		want           bool
	}{
		{three(), []int{1, 2}, []int{2, 2, 1}, true}, {three(), []int{0, 2}, []int{2, 2, 1}, false}, {three(), []int{0, 1, 2}, []int{2, 2, 1}, false}, {three(), []int{1, 2}, []int{1, 1, 1}, false}, {three(), []int{1, 2}, []int{2, 2, 0}, false}, {three(), []int{1, 2}, []int{3, 2, 1}, false}, {three(), []int{1, 2}, []int{3, 3, 0}, false}, {three(), []int{1}, []int{1, 1, 1}, false}, {three(), nil, []int{0, 0, 0}, false}, {three(), []int{0}, []int{2, 2, 1}, false},
		// Wrong arguments.
		{three(), []int{2, 1}, []int{2, 2, 1}, false}, {three(), []int{1, 1, 2}, []int{2, 2, 1}, false}, {three(), []int{1, 2, 3}, []int{2, 2, 1}, false}, {three(), []int{-1, 1, 2}, []int{2, 2, 1}, false}, {three(), []int{1, 2}, []int{2, 2}, false}, {three(), []int{1, 2}, []int{2, 2, 1, 0}, false}, {three(), []int{1, 2}, nil, false}, {three(), []int{1, 2}, []int{2, 2, 1001}, false}, {three(), []int{1, 2}, []int{2, 2, 1 << 40}, false}, {three(), nil, nil, false},
		// No cost, and no value.
		{none, nil, []int{0, 0}, true}, {none, []int{1}, []int{0, 0}, true}, {none, []int{1}, []int{3, 0}, true}, {none, []int{0}, []int{0, 0}, false}, {none, nil, []int{4, 0}, false}, {none, nil, nil, false}, {none, []int{2}, []int{0, 0}, false}, {none, []int{1, 1}, []int{0, 0}, false}, {none, []int{1, 0}, []int{0, 0}, false}, {house(1, 0, 0), nil, nil, true}, {house(1, 0, 0), nil, []int{0}, false}, {house(2, 1, 2, door(0, 1, 0)), []int{0}, []int{0}, true}, {house(2, 1, 2, door(0, 1, 0)), nil, []int{0}, false}, {house(3, 1, 4, door(0, 1, 4), door(1, 2, 0)), []int{1}, []int{0, 0}, true}, {house(3, 1, 4, door(0, 1, 0), door(1, 2, 0)), []int{0, 1}, []int{0, 0}, true},
	} {
		if ok := pest.Proves(c.h, api.Cut{Doors: c.doors, Amount: c.amounts}); ok != c.want {
			t.Errorf("Proves(%v) = %t", c, ok)
		}
	}
	for _, h := range wrongHouses() {
		for _, c := range []api.Cut{{}, {Doors: []int{0}}, {Amount: []int{0}}, {Doors: []int{0}, Amount: []int{0}}, {Amount: make([]int, len(h.Doors))}} {
			if pest.Proves(h, c) {
				t.Errorf("Proves(%v, %v) = true", h, c)
			}
		}
	}
}

// TestP82ProvesAll compares with a second account for what is near a cheapest cut.
func TestP82ProvesAll(t *testing.T) {
	var proved [2]int
	houses(25, 3000, 6, 8, func(d *dice, h api.House) {
		c, _ := pest.Cheapest(h)
		if d.throw(2) == 0 {
			c.Doors = d.some(len(h.Doors))
		}
		if i := d.throw(3); i < len(c.Amount) {
			c.Amount[i] += d.throw(3) - 1
		}
		value, ok := flowOf(h, c.Amount)
		want := ok && isCut(h, c.Doors) && value == costOf(h, c.Doors)
		if got := pest.Proves(h, c); got != want {
			t.Fatalf("Proves(%v, %v) = %t", h, c, got)
		}
		if want {
			proved[1]++
		} else {
			proved[0]++
		}
	})
	if slices.Min(proved[:]) < 500 {
		t.Errorf("%v", proved)
	}
}

func TestP82Errors(t *testing.T) {
	for _, h := range wrongHouses() {
		if c, e := pest.Cheapest(h); len(c.Doors) > 0 || len(c.Amount) > 0 || e != api.ErrInvalid {
			t.Errorf("Cheapest of no house = %v, %d", c, e)
		}
		if n, e := pest.Least(h); n != 0 || e != api.ErrInvalid {
			t.Errorf("Least of no house = %d, %d", n, e)
		}
		if n, e := pest.Fewest(h); n != 0 || e != api.ErrInvalid {
			t.Errorf("Fewest of no house = %d, %d", n, e)
		}
		if l, e := pest.Needed(h); len(l) > 0 || e != api.ErrInvalid {
			t.Errorf("Needed of no house = %v, %d", l, e)
		}
	}
}
