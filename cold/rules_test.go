package cold_test

import (
	"math"
	"reflect"
	"slices"
	"strings"
	"testing"

	"armature/api"
	"armature/cold"
)

// calls makes every call of the package with some arguments, and returns the results of each.
func calls(f api.Freeze, l []api.Reading, b []api.Box, lanes []int, m, n int, text string) map[string][]any {
	out := map[string][]any{
		"ValidReadings": {cold.ValidReadings(l)}, "ValidRule": {cold.ValidRule(f)}, "ValidBoxes": {cold.ValidBoxes(b)},
		"Fit": {cold.Fit(b, m)}, "Right": {cold.Right(b, lanes)}, "Format": {cold.Format(l)},
	}
	keep := func(name string, e api.Errno, results ...any) { out[name] = append(results, e) }
	temp, e := cold.At(l, m, n)
	keep("At", e, temp)
	hours, e := cold.Cold(l, m, n)
	keep("Cold", e, hours)
	chill, e := cold.Chill(f, l, m, n)
	keep("Chill", e, chill)
	thaw, e := cold.Thaw(f, l, m, n)
	keep("Thaw", e, thaw)
	killed, e := cold.Killed(f, l, m)
	keep("Killed", e, killed)
	from, hours, e := cold.Longest(l, m, n)
	keep("Longest", e, from, hours)
	thin, e := cold.Thinned(l)
	keep("Thinned", e, thin)
	shifted, e := cold.Shifted(l, n)
	keep("Shifted", e, shifted)
	load, e := cold.Load(b, m)
	keep("Load", e, load)
	hour, load, e := cold.Peak(b)
	keep("Peak", e, hour, load)
	over, e := cold.Over(b, m)
	keep("Over", e, over)
	for name, a := range map[string][4]int{"Earliest by m": {m, n, 1, 1}, "Earliest by n": {9, 0, m, n}, "Earliest": {6000, m, n, 1}} {
		early, e := cold.Earliest(b, a[0], a[1], a[2], a[3])
		keep(name, e, early)
	}
	given, e := cold.Lanes(b)
	keep("Lanes", e, given)
	hour, count, e := cold.Most(b)
	keep("Most", e, hour, count)
	read, line, e := cold.Parse(text)
	if e == api.ErrSyntax {
		line = 0 // the section says that it comes with this error
	}
	keep("Parse", e, read, line)
	return out
}

func zero(x any) bool {
	v := reflect.ValueOf(x)
	return v.IsZero() || v.Kind() == reflect.Slice && v.Len() == 0
}

func TestP41EndsWithoutPanic(t *testing.T) {
	numbers := []int{math.MinInt, math.MinInt + 1, -1001, -1, 0, 1, 5, 60, 100, 1000, 10000, lastHour - 1, lastHour, lastHour + 1, math.MaxInt}
	texts := []string{"", "\n", "\xff", listText, listText + "x", strings.Repeat("1 ", 1<<15), strings.Repeat("\n", 1<<20)}
	lists := append(wrongReadings(), nights(), full(), readings(0, 0), readings(lastHour, maxTemp))
	rules := append(wrongRules(), frost(), api.Freeze{Temp: -maxTemp, Warm: maxTemp, Hours: 10000, Times: 5, Thaw: 10000})
	shelves := append(wrongBoxes(), nil, shelf(), crowd())
	lanes := [][]int{nil, {0}, {0, 1, 0}, {-1, 0}, numbers, make([]int, api.MaxBoxes), make([]int, api.MaxBoxes+1)}
	for i, m := range numbers {
		for k, n := range numbers {
			for j, l := range lists {
				f, b := rules[(i+2*k+j)%len(rules)], shelves[(i*k+j)%len(shelves)]
				for name, results := range calls(f, l, b, lanes[(i+k+j)%len(lanes)], m, n, texts[(k+j)%len(texts)]) {
					last := len(results) - 1
					if e, failed := results[last].(api.Errno); failed && e != api.OK && slices.ContainsFunc(results[:last], func(x any) bool { return !zero(x) }) {
						t.Fatalf("%s: %v", name, results)
					}
				}
			}
		}
	}
}

func TestP1SameCallSameResult(t *testing.T) {
	d := dice(51)
	for range 100 {
		l, end := d.readings()
		f, b := d.rule(), d.boxes(api.MaxBoxes, 200, 50)
		given, _ := cold.Lanes(b)
		use := func() map[string][]any { return calls(f, l, b, given, end, l[0].Hour, listText) }
		first := use()
		for range 10 {
			if again := use(); !reflect.DeepEqual(first, again) {
				t.Fatalf("%v, then %v", first, again)
			}
		}
	}
}

func TestP1NilIsEmpty(t *testing.T) {
	for _, n := range []int{0, 5, 100} {
		a := calls(frost(), nil, nil, nil, n, n, "")
		b := calls(frost(), []api.Reading{}, []api.Box{}, []int{}, n, n, "")
		for name := range a {
			if !slices.EqualFunc(a[name], b[name], func(x, y any) bool { return reflect.DeepEqual(x, y) || zero(x) && zero(y) }) {
				t.Errorf("%s: %v of nil, %v of the empty ones", name, a[name], b[name])
			}
		}
	}
}

// spare puts a list at the beginning of longer memory.
func spare[T any](l []T, more T) []T {
	return slices.Concat(l, []T{more, more})[:len(l)]
}

// memory copies all of a list's memory, beyond its length too.
func memory[T any](l []T) []T { return slices.Clone(l[:cap(l)]) }

// fill writes over all memory of a list.
func fill[T any](l []T, x T) {
	for i := range l[:cap(l)] {
		l[:cap(l)][i] = x
	}
}

// spoil writes over all memory of all results.
func spoil(results map[string][]any) {
	for _, l := range results {
		for _, x := range l {
			switch r := x.(type) {
			case []int:
				fill(r, -7)
			case []api.Reading:
				fill(r, api.Reading{Hour: -7, Temp: -7})
			}
		}
	}
}

func TestP41ArgumentsStay(t *testing.T) {
	d := dice(52)
	for range 500 {
		l, end := d.readings()
		b := spare(d.boxes(20, 40, 9), box(3, 9, 77))
		given, _ := cold.Lanes(b)
		l, lanes := spare(l, api.Reading{Hour: 7777, Temp: 77}), spare(given, 77)
		before := []any{memory(l), memory(b), memory(lanes)}
		spoil(calls(d.rule(), l, b, lanes, end, 0, listText))
		if after := []any{memory(l), memory(b), memory(lanes)}; !reflect.DeepEqual(before, after) {
			t.Fatalf("%v became %v", before, after)
		}
	}
}

func TestP41ResultsAreNew(t *testing.T) {
	use := func() map[string][]any {
		return calls(frost(), nights(), shelf(), []int{0, 1, 0}, 100, 0, listText)
	}
	first, second := use(), use()
	spoil(second)
	if want := use(); !reflect.DeepEqual(first, want) {
		t.Errorf("%v; want %v", first, want)
	}
}
