package cold_test

import (
	"math"
	"slices"
	"testing"

	"armature/api"
	"armature/cold"
)

// ends are numbers that are no end of nights.
func ends() []int { return []int{math.MinInt, -1, 0, 5, 59, lastHour + 1, math.MaxInt} }

// wrongTemps are numbers that are no temperature.
func wrongTemps() []int { return []int{math.MinInt, -1001, 1001, math.MaxInt} }

func TestP41At(t *testing.T) {
	for _, c := range []struct {
		l               []api.Reading
		end, hour, want int
		e               api.Errno
	}{
		{nights(), 100, 0, 200, api.OK}, {nights(), 100, 4, 200, api.OK}, {nights(), 100, 5, -300, api.OK}, {nights(), 100, 59, -300, api.OK}, {nights(), 100, 60, 200, api.OK}, {nights(), 100, 99, 200, api.OK},
		{nights(), 100, 100, 0, api.ErrRange}, {nights(), 100, -1, 0, api.ErrRange}, {nights(), 100, math.MinInt, 0, api.ErrRange}, {nights(), 100, math.MaxInt, 0, api.ErrRange},
		// The last reading holds for no hour.
		{nights(), 60, 59, -300, api.OK}, {nights(), 60, 60, 0, api.ErrRange}, {nights(), 61, 60, 200, api.OK},
		{readings(7, 3), 7, 7, 0, api.ErrRange}, {readings(7, 3), 8, 7, 3, api.OK}, {readings(7, 3), 8, 6, 0, api.ErrRange}, {readings(0, 3), 0, 0, 0, api.ErrRange}, {readings(0, 3), 0, -1, 0, api.ErrRange},
		{readings(7, 3), lastHour, lastHour - 1, 3, api.OK}, {readings(7, 3), lastHour, lastHour, 0, api.ErrRange}, {readings(lastHour, 3), lastHour, lastHour, 0, api.ErrRange},
		{full(), lastHour, lastHour - 1, -1, api.OK}, {full(), lastHour, 198*5025 - 1, 1, api.OK}, {full(), lastHour, 5025, 0, api.OK}, {full(), lastHour, 5024, -1, api.OK},
	} {
		if got, e := cold.At(c.l, c.end, c.hour); got != c.want || e != c.e {
			t.Errorf("At(%v, %d, %d) = %d, %d; want %d, %d", c.l, c.end, c.hour, got, e, c.want, c.e)
		}
	}
	d := dice(1)
	for range 2000 {
		l, end := d.readings()
		for i, want := range hourly(l, end) {
			if got, e := cold.At(l, end, l[0].Hour+i); got != want || e != api.OK {
				t.Fatalf("At(%v, %d, %d) = %d, %d; want %d", l, end, l[0].Hour+i, got, e, want)
			}
		}
	}
}

func TestP41Cold(t *testing.T) {
	for _, c := range []struct {
		l               []api.Reading
		end, temp, want int
	}{
		{nights(), 100, -301, 0}, {nights(), 100, -300, 55}, {nights(), 100, 199, 55}, {nights(), 100, 200, 100}, {nights(), 100, maxTemp, 100}, {nights(), 100, -maxTemp, 0},
		{nights(), 60, 200, 60}, {readings(7, 3), 7, 3, 0}, {readings(7, 3), 8, 3, 1}, {readings(0, -maxTemp), lastHour, -maxTemp, lastHour}, {readings(0, maxTemp), lastHour, 999, 0},
		{readings(2, 10, 5, 10, 9, -5, 12, 10), 20, 9, 3}, {readings(2, 1, 3, 2, 5, 1, 8, 2), 20, 1, 4}, {full(), lastHour, -1, 66*5025 + 5050},
	} {
		if got, e := cold.Cold(c.l, c.end, c.temp); got != c.want || e != api.OK {
			t.Errorf("Cold(%v, %d, %d) = %d, %d; want %d", c.l, c.end, c.temp, got, e, c.want)
		}
	}
	d := dice(2)
	for range 5000 {
		l, end := d.readings()
		temp, want := d.between(-3, 3), 0
		for _, n := range hourly(l, end) {
			if n <= temp {
				want++
			}
		}
		if got, e := cold.Cold(l, end, temp); got != want || e != api.OK {
			t.Fatalf("Cold(%v, %d, %d) = %d, %d; want %d", l, end, temp, got, e, want)
		}
	}
}

func TestP41Longest(t *testing.T) {
	twice := readings(2, 0, 5, 9, 6, 0, 9, 9, 11, 0, 13, 9)
	for _, c := range []struct {
		l                      []api.Reading
		end, temp, from, hours int
		e                      api.Errno
	}{
		{nights(), 100, 0, 5, 55, api.OK}, {nights(), 100, 200, 0, 100, api.OK}, {nights(), 100, -301, 0, 0, api.ErrNone}, {nights(), 100, -maxTemp, 0, 0, api.ErrNone}, {nights(), 60, maxTemp, 0, 60, api.OK},
		// Of several the first.
		{twice, 20, 0, 2, 3, api.OK}, {twice[1:], 20, 0, 6, 3, api.OK}, {twice, 20, 9, 2, 18, api.OK}, {readings(3, 5, 4, 0, 6, 5), 8, 4, 4, 2, api.OK},
		// A row goes on over several readings, and at last to the end.
		{readings(2, 3, 4, 1, 7, 9, 8, 2, 9, 1, 12, 0), 14, 3, 8, 6, api.OK}, {readings(2, 3, 4, 1, 7, 9, 8, 2, 9, 1, 12, 0), 13, 3, 2, 5, api.OK},
		{readings(7, 3), 7, 3, 0, 0, api.ErrNone}, {readings(7, 9, 8, 3), 8, 3, 0, 0, api.ErrNone}, {readings(7, 9, 8, 3), 9, 3, 8, 1, api.OK}, {readings(0, 3), 1, 3, 0, 1, api.OK}, {readings(0, 0), lastHour, 0, 0, lastHour, api.OK},
	} {
		if from, hours, e := cold.Longest(c.l, c.end, c.temp); from != c.from || hours != c.hours || e != c.e {
			t.Errorf("Longest(%v, %d, %d) = %d, %d, %d; want %d, %d", c.l, c.end, c.temp, from, hours, e, c.from, c.hours)
		}
	}
	d := dice(3)
	for range 5000 {
		l, end := d.readings()
		temp := d.between(-3, 2)
		wantFrom, wantHours := longest(hourly(l, end), temp)
		wantE := api.OK
		if wantHours == 0 {
			wantE = api.ErrNone
		} else {
			wantFrom += l[0].Hour
		}
		if from, hours, e := cold.Longest(l, end, temp); from != wantFrom || hours != wantHours || e != wantE {
			t.Fatalf("Longest(%v, %d, %d) = %d, %d, %d; want %d, %d", l, end, temp, from, hours, e, wantFrom, wantHours)
		}
	}
}

// longest asks anew of every row of hours.
func longest(temps []int, temp int) (from, hours int) {
	for i := range temps {
		n := 0
		for i+n < len(temps) && temps[i+n] <= temp {
			n++
		}
		if n > hours {
			from, hours = i, n
		}
	}
	return from, hours
}

func TestP46Thinned(t *testing.T) {
	for _, c := range []struct{ l, want []api.Reading }{
		{nights(), nights()}, {readings(2, 10, 5, 10, 9, -5, 12, 10), readings(2, 10, 9, -5, 12, 10)}, {readings(7, 0), readings(7, 0)}, {readings(7, 0, 8, 0), readings(7, 0)},
		// Each looks at the one before in the list that is given, also at one that is left out.
		{readings(1, 4, 2, 4, 3, 4, 4, 5, 5, 4, 6, 4), readings(1, 4, 4, 5, 5, 4)}, {full(), full()}, {readings(0, 0, lastHour, 0), readings(0, 0)},
	} {
		if got, e := cold.Thinned(c.l); e != api.OK || !slices.Equal(got, c.want) {
			t.Errorf("Thinned(%v) = %v, %d; want %v", c.l, got, e, c.want)
		}
	}
}

func TestP46SameTemperatures(t *testing.T) {
	d := dice(4)
	for range 5000 {
		l, end := d.readings()
		thin, e := cold.Thinned(l)
		if e != api.OK || !cold.ValidReadings(thin) || thin[0] != l[0] || !slices.Equal(hourly(thin, end), hourly(l, end)) {
			t.Fatalf("Thinned(%v) = %v, %d", l, thin, e)
		}
		for i := range thin[1:] {
			if thin[i].Temp == thin[i+1].Temp {
				t.Fatalf("Thinned(%v) = %v", l, thin)
			}
		}
		if again, e := cold.Thinned(thin); e != api.OK || !slices.Equal(again, thin) {
			t.Fatalf("Thinned(%v) = %v, %d", thin, again, e)
		}
	}
}

func TestP41Shifted(t *testing.T) {
	l := readings(3, 10, 5, 10, 9, -5)
	for _, c := range []struct {
		l    []api.Reading
		by   int
		want []api.Reading
		e    api.Errno
	}{
		{l, 0, l, api.OK}, {l, 1, readings(4, 10, 6, 10, 10, -5), api.OK}, {l, -3, readings(0, 10, 2, 10, 6, -5), api.OK}, {l, -4, nil, api.ErrLimit},
		{l, lastHour - 9, readings(lastHour-6, 10, lastHour-4, 10, lastHour, -5), api.OK}, {l, lastHour - 8, nil, api.ErrLimit},
		// Only one of the hours would be out of its range.
		{l, -5, nil, api.ErrLimit}, {l, lastHour - 4, nil, api.ErrLimit}, {l, lastHour, nil, api.ErrLimit},
		{l, math.MaxInt, nil, api.ErrLimit}, {l, math.MinInt, nil, api.ErrLimit}, {l, math.MaxInt - 5, nil, api.ErrLimit}, {l, math.MinInt + 5, nil, api.ErrLimit},
		{readings(lastHour, 7), -lastHour, readings(0, 7), api.OK}, {readings(0, 7), lastHour, readings(lastHour, 7), api.OK}, {readings(lastHour, 7), 1, nil, api.ErrLimit}, {readings(0, 7), -1, nil, api.ErrLimit}, {full(), 0, full(), api.OK}, {full(), 1, nil, api.ErrLimit},
	} {
		if got, e := cold.Shifted(c.l, c.by); e != c.e || !slices.Equal(got, c.want) {
			t.Errorf("Shifted(%v, %d) = %v, %d; want %v, %d", c.l, c.by, got, e, c.want, c.e)
		}
	}
}

func TestP41ReadingsErrors(t *testing.T) {
	for _, l := range wrongReadings() {
		for _, n := range append(ends(), 100, lastHour) {
			for _, m := range append(wrongTemps(), 0, 5) {
				if x, e := cold.At(l, n, m); x != 0 || e != api.ErrInvalid {
					t.Errorf("At(%v, %d, %d) = %d, %d", l, n, m, x, e)
				}
				if x, e := cold.Cold(l, n, m); x != 0 || e != api.ErrInvalid {
					t.Errorf("Cold(%v, %d, %d) = %d, %d", l, n, m, x, e)
				}
				if from, hours, e := cold.Longest(l, n, m); from != 0 || hours != 0 || e != api.ErrInvalid {
					t.Errorf("Longest(%v, %d, %d) = %d, %d, %d", l, n, m, from, hours, e)
				}
			}
			if k, e := cold.Shifted(l, n); len(k) != 0 || e != api.ErrInvalid {
				t.Errorf("Shifted(%v, %d) = %v, %d", l, n, k, e)
			}
		}
		if k, e := cold.Thinned(l); len(k) != 0 || e != api.ErrInvalid {
			t.Errorf("Thinned(%v) = %v, %d", l, k, e)
		}
	}
}

func TestP41ReadingsRange(t *testing.T) {
	type ask struct{ end, number int }
	var asks []ask
	for _, end := range ends() {
		asks = append(asks, ask{end, 0}, ask{end, 4}, ask{end, 1001})
	}
	for _, temp := range wrongTemps() {
		asks = append(asks, ask{60, temp}, ask{100, temp}, ask{lastHour, temp})
	}
	for _, c := range asks {
		if n, e := cold.Cold(nights(), c.end, c.number); n != 0 || e != api.ErrRange {
			t.Errorf("Cold(%d, %d) = %d, %d", c.end, c.number, n, e)
		}
		if from, hours, e := cold.Longest(nights(), c.end, c.number); from != 0 || hours != 0 || e != api.ErrRange {
			t.Errorf("Longest(%d, %d) = %d, %d, %d", c.end, c.number, from, hours, e)
		}
		if temp, e := cold.At(nights(), c.end, 4); slices.Contains(ends(), c.end) && (temp != 0 || e != api.ErrRange) {
			t.Errorf("At(%d, 4) = %d, %d", c.end, temp, e)
		}
	}
}
