package cold_test

import (
	"math"
	"slices"
	"testing"

	"armature/api"
	"armature/cold"
)

func TestP43Chill(t *testing.T) {
	long := frost()
	long.Hours = 48
	for _, c := range []struct {
		f               api.Freeze
		l               []api.Reading
		end, from, want int
		e               api.Errno
	}{
		{long, nights(), 100, 0, 53, api.OK}, {long, nights(), 100, 4, 53, api.OK}, {long, nights(), 100, 5, 53, api.OK}, {long, nights(), 100, 6, 54, api.OK}, {long, nights(), 100, 12, 60, api.OK}, {long, nights(), 100, 13, 0, api.ErrNone}, {long, nights(), 100, 60, 0, api.ErrNone}, {long, nights(), 100, 100, 0, api.ErrNone},
		{long, nights(), 60, 0, 53, api.OK}, {long, nights(), 60, 60, 0, api.ErrNone}, {long, nights()[:2], 53, 5, 53, api.OK}, {long, nights()[:2], 52, 5, 0, api.ErrNone},
		// Over several readings, and not over one that is too warm.
		{frost(), readings(3, -180, 10, -500, 20, -181, 30, -179), 90, 3, 23, api.OK}, {frost(), readings(3, -180, 10, -500, 20, -181, 30, -179), 90, 10, 30, api.OK}, {frost(), readings(3, -180, 10, -500, 20, -181, 30, -179), 90, 11, 0, api.ErrNone},
		{frost(), readings(3, -180, 22, -179, 23, -180, 42, -179, 43, -180), 90, 3, 63, api.OK}, {frost(), readings(3, -180, 22, -179, 23, -180), 43, 3, 43, api.OK}, {frost(), readings(3, -180, 22, -179, 23, -180), 42, 3, 0, api.ErrNone},
		{api.Freeze{Hours: 1, Times: 1}, readings(7, 0), 8, 7, 8, api.OK}, {api.Freeze{Hours: 1, Times: 1}, readings(7, 0), 7, 7, 0, api.ErrNone}, {api.Freeze{Hours: 1, Times: 1}, readings(7, 1), 8, 7, 0, api.ErrNone},
		{api.Freeze{Hours: 10000, Times: 1}, readings(0, 0), lastHour, lastHour - 10000, lastHour, api.OK}, {api.Freeze{Hours: 10000, Times: 1}, readings(0, 0), lastHour, lastHour - 9999, 0, api.ErrNone},
		{api.Freeze{Hours: 10000, Times: 1}, full(), lastHour, 0, 10000, api.OK}, {api.Freeze{Hours: 10000, Times: 1}, full(), lastHour, 51, 3*5025 + 10000, api.OK},
	} {
		if got, e := cold.Chill(c.f, c.l, c.end, c.from); got != c.want || e != c.e {
			t.Errorf("Chill(%v, %v, %d, %d) = %d, %d; want %d, %d", c.f, c.l, c.end, c.from, got, e, c.want, c.e)
		}
	}
}

func TestP43Thaw(t *testing.T) {
	never := frost()
	never.Thaw = 0
	edge := readings(3, 151, 8, 150, 9, 151, 13, maxTemp, 30, -maxTemp)
	for _, c := range []struct {
		f               api.Freeze
		l               []api.Reading
		end, from, want int
		e               api.Errno
	}{
		{frost(), nights(), 100, 0, 70, api.OK}, {frost(), nights(), 100, 60, 70, api.OK}, {frost(), nights(), 100, 61, 71, api.OK}, {frost(), nights(), 100, 90, 100, api.OK}, {frost(), nights(), 100, 91, 0, api.ErrNone}, {frost(), nights(), 100, 100, 0, api.ErrNone}, {frost(), nights(), 70, 0, 70, api.OK}, {frost(), nights(), 69, 0, 0, api.ErrNone},
		// More than Warm, not as much.
		{frost(), edge, 40, 3, 19, api.OK}, {frost(), edge, 40, 20, 30, api.OK}, {frost(), edge, 40, 21, 0, api.ErrNone},
		// A thaw of no hours ends where it may begin, in the cold too.
		{never, nights(), 100, 0, 0, api.OK}, {never, nights(), 100, 33, 33, api.OK}, {never, nights(), 100, 60, 60, api.OK}, {never, nights(), 100, 100, 100, api.OK}, {never, readings(7, 0), 7, 7, 7, api.OK}, {never, nights(), 100, 101, 0, api.ErrRange},
		{api.Freeze{Hours: 1, Times: 1, Thaw: 10000}, readings(0, 1), lastHour, lastHour - 10000, lastHour, api.OK}, {api.Freeze{Hours: 1, Times: 1, Thaw: 10000}, readings(0, 1), lastHour, lastHour - 9999, 0, api.ErrNone},
		{api.Freeze{Hours: 1, Times: 1, Thaw: 1, Warm: maxTemp}, readings(0, maxTemp), lastHour, 0, 0, api.ErrNone},
	} {
		if got, e := cold.Thaw(c.f, c.l, c.end, c.from); got != c.want || e != c.e {
			t.Errorf("Thaw(%v, %v, %d, %d) = %d, %d; want %d, %d", c.f, c.l, c.end, c.from, got, e, c.want, c.e)
		}
	}
}

func TestP43Killed(t *testing.T) {
	rule := func(hours, times, thaw int) api.Freeze {
		return api.Freeze{Temp: -180, Hours: hours, Times: times, Thaw: thaw, Warm: 150}
	}
	twice := append(nights(), readings(80, -200, 95, -250)...)
	for _, c := range []struct {
		f         api.Freeze
		l         []api.Reading
		end, want int
		e         api.Errno
	}{
		{rule(48, 1, 0), nights(), 100, 53, api.OK}, {rule(48, 1, 10000), nights(), 100, 53, api.OK}, {rule(55, 1, 0), nights(), 100, 60, api.OK}, {rule(56, 1, 0), nights(), 100, 0, api.ErrNone},
		{frost(), nights(), 100, 0, api.ErrNone}, {frost(), twice, 100, 100, api.OK}, {frost(), twice, 120, 100, api.OK}, {frost(), twice, 99, 0, api.ErrNone}, {frost(), twice, 95, 0, api.ErrNone},
		{rule(20, 2, 20), twice, 120, 100, api.OK}, {rule(20, 2, 21), twice, 120, 0, api.ErrNone}, {rule(20, 3, 10), twice, 1000, 0, api.ErrNone},
		// Without a thaw chills follow each other at once, within a reading too.
		{rule(20, 2, 0), twice, 120, 45, api.OK}, {rule(20, 3, 0), twice, 120, 100, api.OK}, {rule(11, 5, 0), twice, 120, 60, api.OK}, {rule(12, 5, 0), twice, 120, 92, api.OK},
		{rule(1, 5, 1), readings(0, -180, 1, 151, 2, -180, 3, 151, 4, -180, 5, 151, 6, -180, 7, 151, 8, -180), 9, 9, api.OK}, {rule(1, 5, 1), readings(0, -180, 1, 151, 2, -180, 3, 150, 4, -180, 5, 151, 6, -180, 7, 151, 8, -180), 9, 0, api.ErrNone},
		{rule(1, 1, 0), readings(7, -180), 8, 8, api.OK}, {rule(1, 1, 0), readings(7, -180), 7, 0, api.ErrNone}, {rule(1, 2, 0), readings(7, -180), 8, 0, api.ErrNone}, {rule(10000, 5, 0), readings(3, -maxTemp), lastHour, 50003, api.OK},
	} {
		if got, e := cold.Killed(c.f, c.l, c.end); got != c.want || e != c.e {
			t.Errorf("Killed(%v, %v, %d) = %d, %d; want %d, %d", c.f, c.l, c.end, got, e, c.want, c.e)
		}
	}
}

// rowEnds says anew of each hour (from the first one, as 0) whether a row of hours ends there, all of them as asked, and begun where it may.
func rowEnds(temps []int, may []bool, hours int, asked func(temp int) bool) []bool {
	ends := make([]bool, len(temps)+1)
	for i := range len(temps) - hours + 1 {
		row := temps[i : i+hours]
		ends[i+hours] = may[i] && !slices.ContainsFunc(row, func(n int) bool { return !asked(n) })
	}
	return ends
}

// since says of each hour whether there was one up to it.
func since(ends []bool) []bool {
	out := slices.Clone(ends)
	for i := range out[1:] {
		out[i+1] = out[i+1] || out[i]
	}
	return out
}

// from says of each hour whether it is not before another.
func from(temps []int, hour int) []bool {
	out := make([]bool, len(temps)+1)
	for i := range out {
		out[i] = i >= hour
	}
	return out
}

// first returns the first hour of those that are counted from another one.
func first(ends []bool, zero int) (int, api.Errno) {
	if i := slices.Index(ends, true); i >= 0 {
		return zero + i, api.OK
	}
	return 0, api.ErrNone
}

func isCold(f api.Freeze) func(temp int) bool { return func(n int) bool { return n <= f.Temp } }
func isWarm(f api.Freeze) func(temp int) bool { return func(n int) bool { return n > f.Warm } }

// killedOn tries anew all places of chills and thaws.
func killedOn(f api.Freeze, temps []int, zero int) (int, api.Errno) {
	may := from(temps, 0)
	for n := range f.Times {
		if n > 0 {
			may = since(rowEnds(temps, may, f.Thaw, isWarm(f)))
		}
		may = rowEnds(temps, may, f.Hours, isCold(f))
		if n+1 < f.Times {
			may = since(may)
		}
	}
	return first(may, zero)
}

func TestP43KilledHourByHour(t *testing.T) {
	d := dice(11)
	killed := [5]int{}
	for range 30000 {
		l, end := d.readings()
		f := d.rule()
		want, wantE := killedOn(f, hourly(l, end), l[0].Hour)
		if got, e := cold.Killed(f, l, end); got != want || e != wantE {
			t.Fatalf("Killed(%v, %v, %d) = %d, %d; want %d, %d", f, l, end, got, e, want, wantE)
		}
		if wantE == api.OK {
			killed[f.Times]++
		}
	}
	for times, n := range killed {
		if times > 0 && n < 100 {
			t.Errorf("killed %d times by %d chills", n, times)
		}
	}
}

func TestP43ChillAndThawHourByHour(t *testing.T) {
	d := dice(12)
	for range 10000 {
		l, end := d.readings()
		f := d.rule()
		temps, zero := hourly(l, end), l[0].Hour
		for hour := zero; hour <= end; hour++ {
			want, wantE := first(rowEnds(temps, from(temps, hour-zero), f.Hours, isCold(f)), zero)
			if got, e := cold.Chill(f, l, end, hour); got != want || e != wantE {
				t.Fatalf("Chill(%v, %v, %d, %d) = %d, %d; want %d, %d", f, l, end, hour, got, e, want, wantE)
			}
			want, wantE = first(rowEnds(temps, from(temps, hour-zero), f.Thaw, isWarm(f)), zero)
			if got, e := cold.Thaw(f, l, end, hour); got != want || e != wantE {
				t.Fatalf("Thaw(%v, %v, %d, %d) = %d, %d; want %d, %d", f, l, end, hour, got, e, want, wantE)
			}
		}
	}
}

// notLater reports whether one answer is there where the other one is, and not later.
func notLater(a int, aE api.Errno, b int, bE api.Errno) bool {
	return bE == api.ErrNone || aE == api.OK && a <= b
}

func TestP42Colder(t *testing.T) {
	d := dice(13)
	for range 20000 {
		l, end := d.readings()
		f := d.rule()
		f.Thaw = 0
		was, wasE := cold.Killed(f, l, end)
		for i := range l {
			l[i].Temp -= d.throw(3)
		}
		if is, isE := cold.Killed(f, l, end); !notLater(is, isE, was, wasE) {
			t.Fatalf("%v of %v to %d: %d, %d; %d, %d when it was warmer", f, l, end, is, isE, was, wasE)
		}
	}
}

func TestP42LaterEnd(t *testing.T) {
	d := dice(14)
	for range 20000 {
		l, end := d.readings()
		f := d.rule()
		was, wasE := cold.Killed(f, l, end)
		is, isE := cold.Killed(f, l, end+d.throw(20))
		if !notLater(is, isE, was, wasE) || wasE == api.OK && is != was {
			t.Fatalf("%v of %v from %d on: %d, %d, then %d, %d", f, l, end, was, wasE, is, isE)
		}
	}
}

func TestP43OneTimeLess(t *testing.T) {
	d := dice(15)
	for range 20000 {
		l, end := d.readings()
		f := d.rule()
		f.Times++
		most, mostE := cold.Killed(f, l, end)
		f.Times--
		if less, lessE := cold.Killed(f, l, end); !notLater(less, lessE, most, mostE) {
			t.Fatalf("%v of %v to %d: %d, %d; %d, %d once more", f, l, end, less, lessE, most, mostE)
		}
	}
}

// TestP43StepByStep makes Killed of Chill and Thaw.
func TestP43StepByStep(t *testing.T) {
	d := dice(16)
	for range 10000 {
		l, end := d.readings()
		f := d.rule()
		at, e := cold.Chill(f, l, end, l[0].Hour)
		for range f.Times - 1 {
			if e == api.OK {
				at, e = cold.Thaw(f, l, end, at)
			}
			if e == api.OK {
				at, e = cold.Chill(f, l, end, at)
			}
		}
		if got, gotE := cold.Killed(f, l, end); got != at || gotE != e {
			t.Fatalf("Killed(%v, %v, %d) = %d, %d; want %d, %d", f, l, end, got, gotE, at, e)
		}
	}
}

func TestP41KilledErrors(t *testing.T) {
	for _, end := range append(ends(), 60, 100, lastHour) {
		for _, from := range []int{math.MinInt, -1, 0, 50, 60, 100, 101, lastHour, lastHour + 1, math.MaxInt} {
			for _, f := range wrongRules() {
				wantKills(t, f, nights(), end, from, api.ErrInvalid)
			}
			for _, l := range wrongReadings() {
				wantKills(t, frost(), l, end, from, api.ErrInvalid)
			}
			if slices.Contains(ends(), end) {
				wantKills(t, frost(), nights(), end, from, api.ErrRange)
			}
		}
	}
	wantKills(t, api.Freeze{}, nil, -1, -1, api.ErrInvalid)
	late := readings(5, -300, 60, 200)
	for _, from := range []int{math.MinInt, -1, 0, 4, 101, lastHour, lastHour + 1, math.MaxInt} {
		if n, e := cold.Chill(frost(), late, 100, from); n != 0 || e != api.ErrRange {
			t.Errorf("Chill from %d on = %d, %d", from, n, e)
		}
		if n, e := cold.Thaw(frost(), late, 100, from); n != 0 || e != api.ErrRange {
			t.Errorf("Thaw from %d on = %d, %d", from, n, e)
		}
	}
}

func wantKills(t *testing.T, f api.Freeze, l []api.Reading, end, from int, want api.Errno) {
	t.Helper()
	if n, e := cold.Killed(f, l, end); n != 0 || e != want {
		t.Errorf("Killed(%v, %v, %d) = %d, %d", f, l, end, n, e)
	}
	if n, e := cold.Chill(f, l, end, from); n != 0 || e != want {
		t.Errorf("Chill(%v, %v, %d, %d) = %d, %d", f, l, end, from, n, e)
	}
	if n, e := cold.Thaw(f, l, end, from); n != 0 || e != want {
		t.Errorf("Thaw(%v, %v, %d, %d) = %d, %d", f, l, end, from, n, e)
	}
}
