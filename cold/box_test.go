package cold_test

import (
	"math"
	"slices"
	"testing"

	"armature/api"
	"armature/cold"
)

func TestP44Load(t *testing.T) {
	for _, c := range []struct {
		b          []api.Box
		hour, want int
	}{
		{shelf(), 0, 3}, {shelf(), 4, 3}, {shelf(), 5, 7}, {shelf(), 9, 7}, {shelf(), 10, 9}, {shelf(), 14, 9}, {shelf(), 15, 5}, {shelf(), 19, 5}, {shelf(), 20, 0}, {shelf(), lastHour, 0},
		{nil, 0, 0}, {nil, lastHour, 0}, {crowd(), 0, 6000}, {crowd(), lastHour - 1, 6000}, {crowd(), lastHour, 0}, {[]api.Box{box(3, 4, 7)}, 2, 0}, {[]api.Box{box(3, 4, 7)}, 3, 7}, {[]api.Box{box(3, 4, 7)}, 4, 0},
	} {
		if got, e := cold.Load(c.b, c.hour); got != c.want || e != api.OK {
			t.Errorf("Load(%v, %d) = %d, %d; want %d", c.b, c.hour, got, e, c.want)
		}
	}
	for _, hour := range []int{math.MinInt, -1, lastHour + 1, math.MaxInt} {
		for _, b := range [][]api.Box{nil, shelf(), crowd()} {
			if n, e := cold.Load(b, hour); n != 0 || e != api.ErrRange {
				t.Errorf("Load(%v, %d) = %d, %d", b, hour, n, e)
			}
		}
	}
}

func TestP44Peak(t *testing.T) {
	for _, c := range []struct {
		b          []api.Box
		hour, load int
	}{
		{shelf(), 10, 9}, {crowd(), 0, 6000}, {[]api.Box{box(lastHour-1, lastHour, 1)}, lastHour - 1, 1},
		// The first hour of several, whichever box stands first; as much as before comes when one goes.
		{[]api.Box{box(8, 9, 5), box(2, 3, 5)}, 2, 5}, {[]api.Box{box(2, 6, 5), box(6, 9, 5)}, 2, 5}, {[]api.Box{box(6, 9, 5), box(2, 6, 5), box(0, 1, 4)}, 2, 5},
		// A large one is more than many.
		{[]api.Box{box(0, 9, 1), box(0, 9, 1), box(0, 9, 1), box(20, 21, 4)}, 20, 4}, {[]api.Box{box(20, 21, 2), box(0, 9, 1), box(5, 9, 2)}, 5, 3},
	} {
		if hour, load, e := cold.Peak(c.b); hour != c.hour || load != c.load || e != api.OK {
			t.Errorf("Peak(%v) = %d, %d, %d; want %d, %d", c.b, hour, load, e, c.hour, c.load)
		}
	}
	for _, b := range [][]api.Box{nil, {}} {
		if hour, load, e := cold.Peak(b); hour != 0 || load != 0 || e != api.ErrNone {
			t.Errorf("Peak of no boxes = %d, %d, %d", hour, load, e)
		}
	}
}

func TestP44FitAndOver(t *testing.T) {
	for _, c := range []struct {
		b            []api.Box
		places, hour int
		e            api.Errno
	}{
		{shelf(), 9, 0, api.ErrNone}, {shelf(), 10000, 0, api.ErrNone}, {shelf(), 8, 10, api.OK}, {shelf(), 7, 10, api.OK}, {shelf(), 6, 5, api.OK}, {shelf(), 3, 5, api.OK}, {shelf(), 2, 0, api.OK}, {shelf(), 0, 0, api.OK},
		{nil, 0, 0, api.ErrNone}, {nil, 10000, 0, api.ErrNone}, {crowd(), 6000, 0, api.ErrNone}, {crowd(), 5999, 0, api.OK}, {[]api.Box{box(7, 8, 1)}, 0, 7, api.OK}, {[]api.Box{box(9, 12, 6), box(7, 8, 6)}, 5, 7, api.OK},
		// One comes in the hour in which the other one is gone.
		{[]api.Box{box(0, 5, 6), box(5, 9, 6)}, 6, 0, api.ErrNone}, {[]api.Box{box(0, 6, 6), box(5, 9, 6)}, 6, 5, api.OK},
	} {
		if hour, e := cold.Over(c.b, c.places); hour != c.hour || e != c.e {
			t.Errorf("Over(%v, %d) = %d, %d; want %d, %d", c.b, c.places, hour, e, c.hour, c.e)
		}
		if got := cold.Fit(c.b, c.places); got != (c.e == api.ErrNone) {
			t.Errorf("Fit(%v, %d) = %t", c.b, c.places, got)
		}
	}
	for _, places := range []int{math.MinInt, -1, 10001, math.MaxInt} {
		for _, b := range [][]api.Box{nil, shelf(), crowd()} {
			if hour, e := cold.Over(b, places); hour != 0 || e != api.ErrRange {
				t.Errorf("Over(%v, %d) = %d, %d", b, places, hour, e)
			}
			if cold.Fit(b, places) {
				t.Errorf("Fit(%v, %d) = true", b, places)
			}
		}
	}
}

// peakOf is the first hour with the greatest number, and this number.
func peakOf(sums []int) (int, int) {
	most := slices.Max(sums)
	return slices.Index(sums, most), most
}

func TestP44PlacesHourByHour(t *testing.T) {
	d := dice(21)
	for range 5000 {
		b := d.boxes(8, 30, 9)
		sums := loads(b, 31)
		for hour, want := range sums {
			if got, e := cold.Load(b, hour); got != want || e != api.OK {
				t.Fatalf("Load(%v, %d) = %d, %d; want %d", b, hour, got, e, want)
			}
		}
		wantHour, wantLoad := peakOf(sums)
		hour, load, e := cold.Peak(b)
		if len(b) > 0 && (hour != wantHour || load != wantLoad || e != api.OK) {
			t.Fatalf("Peak(%v) = %d, %d, %d; want %d, %d", b, hour, load, e, wantHour, wantLoad)
		}
		if !cold.Fit(b, load) || load > 0 && cold.Fit(b, load-1) {
			t.Fatalf("Peak(%v) = %d is not the least number of places", b, load)
		}
		for places := range wantLoad + 2 {
			want := slices.IndexFunc(sums, func(n int) bool { return n > places })
			got, e := cold.Over(b, places)
			if (want < 0) != (e == api.ErrNone) || want >= 0 && (got != want || e != api.OK) || cold.Fit(b, places) != (e == api.ErrNone) {
				t.Fatalf("Over(%v, %d) = %d, %d; want %d", b, places, got, e, want)
			}
		}
	}
}

func TestP44Earliest(t *testing.T) {
	tight := []api.Box{box(0, 10, 5), box(12, 20, 5), box(23, 30, 5)}
	whole := []api.Box{box(0, lastHour, 5)}
	for _, c := range []struct {
		b                               []api.Box
		places, from, hours, size, want int
		e                               api.Errno
	}{
		{shelf(), 9, 0, 5, 6, 0, api.OK}, {shelf(), 9, 0, 6, 6, 20, api.OK}, {shelf(), 9, 3, 6, 4, 15, api.OK}, {shelf(), 9, 20, 6, 9, 20, api.OK}, {shelf(), 9, 4, 1, 6, 4, api.OK}, {shelf(), 9, 500, 10000, 9, 500, api.OK},
		{nil, 100, 0, 10000, 100, 0, api.OK}, {nil, 100, 777, 10000, 100, 777, api.OK}, {nil, 99, 0, 1, 100, 0, api.ErrNone}, {nil, 0, 0, 1, 1, 0, api.ErrNone},
		// Into a gap just as long, or behind one that is too short.
		{tight, 9, 0, 2, 5, 10, api.OK}, {tight, 9, 0, 3, 5, 20, api.OK}, {tight, 9, 0, 4, 5, 30, api.OK}, {tight, 9, 11, 1, 5, 11, api.OK}, {tight, 9, 11, 2, 5, 20, api.OK}, {tight, 9, 0, 4, 4, 0, api.OK},
		// It always stays full, and beyond the last hour nothing is put in.
		{whole, 9, 0, 1, 5, 0, api.ErrNone}, {whole, 9, 0, 1, 4, 0, api.OK}, {whole, 9, lastHour - 1, 1, 4, lastHour - 1, api.OK}, {whole, 9, lastHour, 1, 4, 0, api.ErrNone},
		{nil, 9, lastHour - 10, 10, 1, lastHour - 10, api.OK}, {nil, 9, lastHour - 10, 11, 1, 0, api.ErrNone}, {nil, 9, lastHour, 1, 1, 0, api.ErrNone}, {nil, 9, lastHour - 10000, 10000, 9, lastHour - 10000, api.OK}, {nil, 9, lastHour - 9999, 10000, 9, 0, api.ErrNone},
		{[]api.Box{box(0, lastHour-10, 5)}, 9, 0, 10, 5, lastHour - 10, api.OK}, {[]api.Box{box(0, lastHour-10, 5)}, 9, 0, 11, 5, 0, api.ErrNone},
		{shelf(), 9, 0, 5, 10, 0, api.ErrNone}, {shelf(), 8, 0, 5, 1, 0, api.ErrState}, {shelf(), 8, 100, 5, 1, 0, api.ErrState}, {shelf(), 0, 100, 5, 1, 0, api.ErrState},
		// The error that is named first.
		{shelf(), 8, lastHour - 4, 5, 1, 0, api.ErrNone}, {shelf(), 8, lastHour - 5, 5, 1, 0, api.ErrState}, {shelf(), 8, lastHour, 10000, 100, 0, api.ErrNone},
		// There may be as many boxes as are valid before.
		{crowd(), 6000, 0, 1, 1, 0, api.ErrNone}, {crowd(), 6001, 0, 1, 1, 0, api.OK}, {crowd(), 6001, 0, 1, 2, 0, api.ErrNone}, {crowd(), 10000, lastHour - 10000, 10000, 100, lastHour - 10000, api.OK},
		{slices.Repeat([]api.Box{box(0, 7, 100)}, api.MaxBoxes), 6000, 0, 1, 1, 7, api.OK},
	} {
		if got, e := cold.Earliest(c.b, c.places, c.from, c.hours, c.size); got != c.want || e != c.e {
			t.Errorf("Earliest(%v, %d, %d, %d, %d) = %d, %d; want %d, %d", c.b, c.places, c.from, c.hours, c.size, got, e, c.want, c.e)
		}
	}
}

// earliestOn tries anew hour after hour.
func earliestOn(b []api.Box, places, from, hours, size int) (int, api.Errno) {
	const last = 100 // all boxes are gone long before
	sums := loads(b, last)
	if slices.Max(sums) > places {
		return 0, api.ErrState
	}
	for hour := from; hour+hours <= last; hour++ {
		if slices.Max(sums[hour:hour+hours])+size <= places {
			return hour, api.OK
		}
	}
	return 0, api.ErrNone
}

func TestP44EarliestHourByHour(t *testing.T) {
	d := dice(22)
	seen := map[api.Errno]int{}
	for range 20000 {
		b := d.boxes(8, 40, 9)
		places, from, hours, size := d.throw(30), d.throw(50), d.between(1, 15), d.between(1, 12)
		want, wantE := earliestOn(b, places, from, hours, size)
		got, e := cold.Earliest(b, places, from, hours, size)
		if got != want || e != wantE {
			t.Fatalf("Earliest(%v, %d, %d, %d, %d) = %d, %d; want %d, %d", b, places, from, hours, size, got, e, want, wantE)
		}
		if e == api.OK && !cold.Fit(append(b, box(got, got+hours, size)), places) {
			t.Fatalf("Earliest(%v, %d, %d, %d, %d) = %d does not fit", b, places, from, hours, size, got)
		}
		seen[e]++
	}
	if seen[api.OK] < 500 || seen[api.ErrNone] < 500 || seen[api.ErrState] < 500 {
		t.Errorf("only %v", seen)
	}
}

func TestP41EarliestErrors(t *testing.T) {
	wrong := [][4]int{{-1, 0, 1, 1}, {10001, 0, 1, 1}, {9, -1, 1, 1}, {9, lastHour + 1, 1, 1}, {9, 0, 0, 1}, {9, 0, -1, 1}, {9, 0, 10001, 1}, {9, 0, 1, 0}, {9, 0, 1, -1}, {9, 0, 1, 101}, {8, lastHour + 1, 1, 1}, {8, lastHour, 10000, 101}}
	for i := range 4 {
		for _, n := range []int{math.MinInt, math.MaxInt} {
			c := [4]int{9, 0, 1, 1}
			c[i] = n
			wrong = append(wrong, c)
		}
	}
	for _, c := range wrong {
		for _, b := range [][]api.Box{nil, shelf(), crowd()} {
			if n, e := cold.Earliest(b, c[0], c[1], c[2], c[3]); n != 0 || e != api.ErrRange {
				t.Errorf("Earliest(%v, %v) = %d, %d", b, c, n, e)
			}
		}
		for _, b := range wrongBoxes() {
			if n, e := cold.Earliest(b, c[0], c[1], c[2], c[3]); n != 0 || e != api.ErrInvalid {
				t.Errorf("Earliest(%v, %v) = %d, %d", b, c, n, e)
			}
		}
	}
}

func TestP41BoxesErrors(t *testing.T) {
	for _, b := range wrongBoxes() {
		for _, n := range []int{math.MinInt, -1, 0, 9, 10000, lastHour, math.MaxInt} {
			if x, e := cold.Load(b, n); x != 0 || e != api.ErrInvalid {
				t.Errorf("Load(%v, %d) = %d, %d", b, n, x, e)
			}
			if x, e := cold.Over(b, n); x != 0 || e != api.ErrInvalid {
				t.Errorf("Over(%v, %d) = %d, %d", b, n, x, e)
			}
			if x, e := cold.Earliest(b, 9, 0, 1, 1); x != 0 || e != api.ErrInvalid {
				t.Errorf("Earliest(%v) = %d, %d", b, x, e)
			}
			if cold.Fit(b, n) {
				t.Errorf("Fit(%v, %d) = true", b, n)
			}
		}
		if hour, load, e := cold.Peak(b); hour != 0 || load != 0 || e != api.ErrInvalid {
			t.Errorf("Peak(%v) = %d, %d, %d", b, hour, load, e)
		}
		if hour, count, e := cold.Most(b); hour != 0 || count != 0 || e != api.ErrInvalid {
			t.Errorf("Most(%v) = %d, %d, %d", b, hour, count, e)
		}
		if lanes, e := cold.Lanes(b); len(lanes) != 0 || e != api.ErrInvalid {
			t.Errorf("Lanes(%v) = %v, %d", b, lanes, e)
		}
		own := make([]int, len(b))
		for i := range own {
			own[i] = i
		}
		if cold.Right(b, own) {
			t.Errorf("Right(%v, %v) = true", b, own)
		}
	}
}
