package bath_test

import (
	"math"
	"reflect"
	"slices"
	"strings"
	"testing"

	"armature/api"
	"armature/bath"
)

// calls makes every call of the package with some arguments, and returns the results of each.
func calls(v api.Vat, b api.Bath, l []api.Step, m, n int, text string) map[string][]any {
	out := map[string][]any{
		"ValidBath": {bath.ValidBath(b)}, "ValidSkin": {bath.ValidSkin(v.Skin)}, "ValidVat": {bath.ValidVat(v)}, "ValidSteps": {bath.ValidSteps(l)},
		"Format": {bath.Format(l)},
	}
	keep := func(name string, e api.Errno, results ...any) { out[name] = append(results, e) }
	w, e := bath.Hour(v)
	keep("Hour", e, w)
	w, e = bath.Do(v, step(m, n))
	keep("Do", e, w)
	w, done, e := bath.Run(v, l)
	if e == api.ErrLimit {
		done = 0 // the section says that it comes with this error
	}
	keep("Run", e, w, done)
	total, e := bath.Total(v)
	keep("Total", e, total)
	put, e := bath.Put(l)
	keep("Put", e, put)
	hours, e := bath.Hours(l)
	keep("Hours", e, hours)
	salt, acid, e := bath.Balance(v)
	keep("Balance", e, salt, acid)
	steady, e := bath.Steady(v)
	keep("Steady", e, steady)
	until, e := bath.Until(v, m, n)
	keep("Until", e, until)
	below, e := bath.Below(v, m, n)
	keep("Below", e, below)
	strength, e := bath.Strength(b)
	keep("Strength", e, strength)
	order, e := bath.Stronger(v.Bath, b)
	keep("Stronger", e, order)
	water, e := bath.Water(b, m, n)
	keep("Water", e, water)
	mixed, e := bath.Mixed(v.Bath, b)
	keep("Mixed", e, mixed)
	one, rest, e := bath.Split(b, n)
	keep("Split", e, one, rest)
	read, line, e := bath.Parse(text)
	if e == api.ErrSyntax {
		line = 0 // the section says that it comes with this error
	}
	keep("Parse", e, read, line)
	return out
}

func zero(x any) bool {
	v := reflect.ValueOf(x)
	return v.IsZero() || v.Kind() == reflect.Slice && v.Len() == 0
}

func TestP31EndsWithoutPanic(t *testing.T) {
	numbers := []int{math.MinInt, math.MinInt + 1, -1, 0, 1, 2, 6, 7, 1000, 1001, 10000, top, top + 1, math.MaxInt}
	texts := []string{"", "\n", "\xff", listText, listText + "x", strings.Repeat("1 ", 1<<15), strings.Repeat("\n", 1<<20)}
	full := api.Bath{Water: top, Salt: top, Acid: top}
	vats := append(wrongVats(), api.Vat{}, vat(), stained(), api.Vat{Bath: full}, api.Vat{Gone: full}, api.Vat{Skin: api.Skin{Water: top, Acid: top, Open: 1000}})
	baths := append(wrongBaths(), api.Bath{}, full, vat().Bath, api.Bath{Acid: top})
	lists := append(wrongLists(), nil, list(), slices.Repeat([]api.Step{step(api.SWait, 100)}, api.MaxSteps), slices.Repeat(list(), 5000), slices.Repeat([]api.Step{step(api.SSalt, math.MaxInt)}, 3))
	for i, m := range numbers {
		for k, n := range numbers {
			for j, v := range vats {
				b, l := baths[(i+k+j)%len(baths)], lists[(i*k+j)%len(lists)]
				for name, results := range calls(v, b, l, m, n, texts[(k+j)%len(texts)]) {
					last := len(results) - 1
					if e, failed := results[last].(api.Errno); failed && e != api.OK && slices.ContainsFunc(results[:last], func(x any) bool { return !zero(x) }) {
						t.Fatalf("%s: %v", name, results)
					}
				}
			}
		}
	}
}

func TestP1SameCallSameResult(t *testing.T) {
	d := dice(46)
	for range 40 {
		v, b, l := d.vat(), d.wet(), d.steps(20, 100)
		use := func() map[string][]any { return calls(v, b, l, 1, 5, listText) }
		first := use()
		for range 5 {
			if again := use(); !reflect.DeepEqual(first, again) {
				t.Fatalf("%v, then %v", first, again)
			}
		}
	}
}

func TestP1NilIsEmpty(t *testing.T) {
	a := calls(vat(), vat().Bath, nil, 1, 5, "")
	b := calls(vat(), vat().Bath, []api.Step{}, 1, 5, "")
	for name := range a {
		if !slices.EqualFunc(a[name], b[name], func(x, y any) bool { return reflect.DeepEqual(x, y) || zero(x) && zero(y) }) {
			t.Errorf("%s: %v of nil, %v of no steps", name, a[name], b[name])
		}
	}
}

func TestP31ArgumentsStay(t *testing.T) {
	d := dice(47)
	for range 200 {
		l := d.steps(20, 1000)
		l = append(l, step(api.SLime, 77), step(api.SPour, 88), step(0, 99))[:len(l)]
		before := slices.Clone(l[:cap(l)])
		calls(d.vat(), d.wet(), l, 1, 5, bath.Format(l))
		if !slices.Equal(before, l[:cap(l)]) {
			t.Fatalf("%v became %v", before, l[:cap(l)])
		}
	}
}

func TestP31ResultsAreNew(t *testing.T) {
	first, _, _ := bath.Parse(listText)
	second, _, _ := bath.Parse(listText)
	for i := range second[:cap(second)] {
		second[:cap(second)][i] = step(api.SPour, 77)
	}
	third, _, _ := bath.Parse(listText)
	if !slices.Equal(first, list()) || !slices.Equal(third, list()) {
		t.Errorf("%v and %v; want %v", first, third, list())
	}
}
