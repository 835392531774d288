package cold_test

import (
	"math"
	"slices"
	"testing"

	"armature/api"
	"armature/cold"
)

func TestP45Lanes(t *testing.T) {
	for _, c := range []struct {
		b    []api.Box
		want []int
	}{
		{nil, nil}, {shelf(), []int{0, 1, 0}}, {[]api.Box{box(7, 8, 100)}, []int{0}},
		// In the order in which they come, whichever stands first; of those that come together the first one.
		{[]api.Box{box(10, 20, 1), box(5, 15, 1), box(0, 10, 1)}, []int{0, 1, 0}}, {[]api.Box{box(3, 4, 1), box(3, 9, 1), box(0, 5, 1), box(3, 5, 1)}, []int{1, 2, 0, 3}},
		// The least lane that is free, though another one is free for longer.
		{[]api.Box{box(0, 9, 1), box(1, 3, 1), box(2, 4, 1), box(5, 6, 1), box(5, 6, 1), box(5, 6, 1), box(9, 10, 1)}, []int{0, 1, 2, 1, 2, 3, 0}},
		{[]api.Box{box(0, 5, 1), box(0, 9, 1), box(0, 7, 1), box(5, 6, 1), box(7, 8, 1), box(8, 9, 1)}, []int{0, 1, 2, 0, 0, 0}},
		{[]api.Box{box(0, 1, 1), box(1, 2, 1), box(2, 3, 1)}, []int{0, 0, 0}}, {[]api.Box{box(0, 2, 1), box(1, 3, 1), box(2, 4, 1), box(3, 5, 1)}, []int{0, 1, 0, 1}},
	} {
		if got, e := cold.Lanes(c.b); e != api.OK || !slices.Equal(got, c.want) || !cold.Right(c.b, got) {
			t.Errorf("Lanes(%v) = %v, %d; want %v", c.b, got, e, c.want)
		}
	}
	got, e := cold.Lanes(crowd())
	for i := range got {
		if got[i] != i {
			t.Errorf("the box %d of a crowd has the lane %d", i, got[i])
		}
	}
	if len(got) != api.MaxBoxes || e != api.OK {
		t.Errorf("Lanes of a crowd = %v, %d", got, e)
	}
}

func TestP45Right(t *testing.T) {
	for _, c := range []struct {
		b     []api.Box
		lanes []int
		want  bool
	}{
		{nil, nil, true}, {nil, []int{}, true}, {nil, []int{0}, false}, {shelf(), nil, false}, {shelf(), []int{0, 1}, false}, {shelf(), []int{0, 1, 0, 2}, false},
		{shelf(), []int{0, 1, 0}, true}, {shelf(), []int{1, 0, 1}, true}, {shelf(), []int{7, 0, 5}, true}, {shelf(), []int{math.MaxInt, 0, math.MaxInt}, true},
		{shelf(), []int{0, 0, 1}, false}, {shelf(), []int{1, 0, 0}, false}, {shelf(), []int{0, 0, 0}, false}, {shelf(), []int{0, 1, 1}, false},
		{shelf(), []int{-1, 0, 1}, false}, {shelf(), []int{0, 1, -1}, false}, {shelf(), []int{0, math.MinInt, 0}, false}, {[]api.Box{box(0, 1, 1)}, []int{-1}, false},
		{[]api.Box{box(4, 6, 1), box(0, 9, 1)}, []int{0, 0}, false}, {[]api.Box{box(0, 9, 1), box(4, 6, 1)}, []int{0, 0}, false}, {[]api.Box{box(5, 6, 1), box(5, 6, 1)}, []int{3, 3}, false}, {[]api.Box{box(6, 7, 1), box(5, 6, 1)}, []int{3, 3}, true},
	} {
		if got := cold.Right(c.b, c.lanes); got != c.want {
			t.Errorf("Right(%v, %v) = %t", c.b, c.lanes, got)
		}
	}
}

func TestP45Most(t *testing.T) {
	for _, c := range []struct {
		b           []api.Box
		hour, count int
	}{
		{shelf(), 5, 2}, {crowd(), 0, api.MaxBoxes}, {[]api.Box{box(lastHour-1, lastHour, 100)}, lastHour - 1, 1},
		// Many are more than a large one, and the first hour of several counts.
		{[]api.Box{box(0, 9, 100), box(20, 25, 1), box(22, 23, 1)}, 22, 2}, {[]api.Box{box(9, 10, 1), box(3, 4, 1)}, 3, 1}, {[]api.Box{box(3, 9, 1), box(9, 12, 1)}, 3, 1}, {[]api.Box{box(8, 9, 1), box(7, 9, 1), box(1, 3, 1), box(2, 5, 1)}, 2, 2},
	} {
		if hour, count, e := cold.Most(c.b); hour != c.hour || count != c.count || e != api.OK {
			t.Errorf("Most(%v) = %d, %d, %d; want %d, %d", c.b, hour, count, e, c.hour, c.count)
		}
	}
	for _, b := range [][]api.Box{nil, {}} {
		if hour, count, e := cold.Most(b); hour != 0 || count != 0 || e != api.ErrNone {
			t.Errorf("Most of no boxes = %d, %d, %d", hour, count, e)
		}
	}
}

// lanesOn gives lanes anew, on a sheet of hours.
func lanesOn(b []api.Box, hours int) []int {
	lanes := slices.Repeat([]int{-1}, len(b))
	taken := make([][]bool, hours)
	for hour := range hours {
		taken[hour] = make([]bool, len(b))
	}
	for hour := range hours {
		for i, x := range b {
			if x.From != hour {
				continue
			}
			lanes[i] = slices.Index(taken[hour], false)
			for h := x.From; h < x.To; h++ {
				taken[h][lanes[i]] = true
			}
		}
	}
	return lanes
}

// rightOn asks anew of each hour.
func rightOn(b []api.Box, lanes []int, hours int) bool {
	for hour := range hours {
		met := map[int]bool{}
		for i, x := range b {
			there := x.From <= hour && hour < x.To
			if there && met[lanes[i]] {
				return false
			}
			met[lanes[i]] = met[lanes[i]] || there
		}
	}
	return true
}

func TestP45FirstComeFirst(t *testing.T) {
	d := dice(31)
	for range 5000 {
		b := d.boxes(api.MaxBoxes, 40, 9)
		want := lanesOn(b, 41)
		lanes, e := cold.Lanes(b)
		if e != api.OK || !slices.Equal(lanes, want) || !cold.Right(b, lanes) {
			t.Fatalf("Lanes(%v) = %v, %d; want %v", b, lanes, e, want)
		}
		if len(b) == 0 {
			continue
		}
		wantHour, wantCount := peakOf(loads(alike(b), 41))
		hour, count, e := cold.Most(b)
		if hour != wantHour || count != wantCount || e != api.OK {
			t.Fatalf("Most(%v) = %d, %d, %d; want %d, %d", b, hour, count, e, wantHour, wantCount)
		}
		if slices.Max(lanes)+1 != count {
			t.Fatalf("Lanes(%v) = %v, though at most %d are there", b, lanes, count)
		}
		lanes[d.throw(len(b))] = d.throw(count)
		if got := cold.Right(b, lanes); got != rightOn(b, lanes, 41) {
			t.Fatalf("Right(%v, %v) = %t", b, lanes, got)
		}
	}
}

// TestP45NoFewer tries all ways of giving fewer lanes.
func TestP45NoFewer(t *testing.T) {
	d := dice(32)
	for range 500 {
		b := d.boxes(6, 12, 1)
		_, count, _ := cold.Most(b)
		lanes := make([]int, len(b))
		var try func(i int)
		try = func(i int) {
			if i < len(b) {
				for lanes[i] = range count - 1 {
					try(i + 1)
				}
				return
			}
			if cold.Right(b, lanes) {
				t.Fatalf("Right(%v, %v), though at once %d are there", b, lanes, count)
			}
		}
		if count > 0 {
			try(0)
		}
	}
}
