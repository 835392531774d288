package pest_test

import (
	"math"
	"reflect"
	"slices"
	"strings"
	"testing"

	"armature/api"
	"armature/pest"
)

// use is what all calls of the package are made with.
type use struct {
	h               api.House
	doors, amounts  []int
	day, room, door int
	traps           []api.Trap
	begin           int
	touches         []api.Touch
	things          uint64
	thing           int
	text            string
}

func all(results ...any) []any { return results }

// calls makes every call, and returns the results of each.
func (u use) calls() map[string][]any {
	return map[string][]any{
		"Valid": all(pest.Valid(u.h)), "Spread": all(pest.Spread(u.h, u.doors, u.day)), "Comes": all(pest.Comes(u.h, u.doors)), "Day": all(pest.Day(u.h, u.doors, u.room)), "Cuts": all(pest.Cuts(u.h, u.doors)), "Cost": all(pest.Cost(u.h, u.doors)), "Flow": all(pest.Flow(u.h, u.amounts)), "Value": all(pest.Value(u.h, u.amounts)),
		"Cheapest": all(pest.Cheapest(u.h)), "Proves": all(pest.Proves(u.h, api.Cut{Doors: u.doors, Amount: u.amounts})), "Least": all(pest.Least(u.h)), "Fewest": all(pest.Fewest(u.h)), "Needed": all(pest.Needed(u.h)),
		"Parts": all(pest.Parts(u.h, u.doors)), "Fits": all(pest.Fits(u.h, u.traps, u.begin)), "Begins": all(pest.Begins(u.h, u.traps)), "Without": all(pest.Without(u.h, u.door)),
		"Tainted": all(pest.Tainted(u.touches, u.things)), "Cause": all(pest.Cause(u.touches, u.things, u.thing)), "Format": all(pest.Format(u.h)), "Parse": all(pest.Parse(u.text)),
	}
}

// thrown is what all calls succeed with, or nearly all.
func thrown(d *dice) use {
	h := d.house(api.MaxRooms, 20)
	u := use{h: h, doors: d.some(len(h.Doors)), day: d.throw(8), room: d.throw(h.Rooms), door: d.throw(len(h.Doors) + 1), traps: d.traps(h), begin: d.throw(1 << h.Rooms), thing: d.throw(8), text: pest.Format(h)}
	u.touches, u.things = d.touches(40, 8)
	cut, _ := pest.Cheapest(h)
	u.amounts = slices.Clone(cut.Amount)
	if d.throw(2) == 0 {
		u.doors = slices.Clone(cut.Doors)
	}
	return u
}

func zero(x any) bool {
	switch v := x.(type) {
	case api.House:
		return isZero(v)
	case api.Cut:
		return len(v.Doors) == 0 && len(v.Amount) == 0
	case []int:
		return len(v) == 0
	default:
		return reflect.ValueOf(x).IsZero()
	}
}

// leftovers returns the calls that fail and have other results all the same.
func leftovers(results map[string][]any) []string {
	var l []string
	for name, r := range results {
		last := len(r) - 1
		e, can := r[last].(api.Errno)
		if name == "Parse" && e == api.ErrSyntax {
			r = r[:1] // the line comes with this error
			last = 1
		}
		if can && e != api.OK && slices.ContainsFunc(r[:last], func(x any) bool { return !zero(x) }) {
			l = append(l, name)
		}
	}
	return l
}

func TestP81EndsWithoutPanic(t *testing.T) {
	texts := []string{"", "\n", "\xff", threeText, threeText + "x", "house 12 0 0\n", "house 1 1 1\n", "door 0 1 1\n", "house", "house 1 0\n", strings.Repeat("house 1 0 0\n", 7), strings.Repeat(" ", api.MaxText+1), strings.Repeat(" ", 99)}
	numbers := []int{math.MinInt, math.MinInt + 1, -1001, -1, 0, 1, 2, 3, 11, 12, 39, 40, 63, 64, 100, 101, 1000, 1001, 4095, 4096, 1 << 32, math.MaxInt - 1, math.MaxInt}
	lists := append(append(unknown(2), unsorted()...), nil, []int{}, []int{0}, []int{0, 1, 2}, []int{1, 2}, []int{2, 2, 1}, []int{-1000, 1000, 0}, []int{1001, 0, 0}, make([]int, 40))
	d := dice(51)
	for range 200 {
		for _, h := range append(wrongHouses()[:90], three(), row(12, 5), full(3), house(1, 0, 0), house(12, 4095, 0)) {
			u := use{h: h, doors: lists[d.throw(len(lists))], amounts: lists[d.throw(len(lists))], text: texts[d.throw(len(texts))], things: uint64(d.throw(1 << 20))}
			for _, n := range []*int{&u.day, &u.room, &u.door, &u.begin, &u.thing} {
				*n = numbers[d.throw(len(numbers))]
			}
			for range d.throw(4) {
				u.traps = append(u.traps, trap(numbers[d.throw(len(numbers))], numbers[d.throw(len(numbers))], d.throw(2) == 0))
				u.touches = append(u.touches, api.Touch{Who: numbers[d.throw(len(numbers))], What: numbers[d.throw(len(numbers))]})
			}
			if found := leftovers(u.calls()); len(found) > 0 {
				t.Fatalf("%v of %v", found, u)
			}
		}
	}
}

// TestP81EndsSoon makes calls that would take long if what flows grew by 1 at a time.
func TestP81EndsSoon(t *testing.T) {
	for _, h := range []api.House{full(maxCost), full(maxCost - 1), full(1), row(12, maxCost), house(4, 1, 8, door(0, 1, 1000), door(1, 2, 1), door(0, 2, 1000), door(1, 3, 1000), door(2, 3, 1000)), house(2, 1, 2, slices.Repeat([]api.Door{door(0, 1, maxCost)}, 40)...)} {
		for range 10 {
			u := use{h: h, day: maxDay, traps: slices.Repeat([]api.Trap{trap(1, maxDay, true)}, maxTraps), begin: 1, touches: slices.Repeat(chain()[:100], 2), things: everything, thing: 63}
			u.calls()
		}
	}
}

func TestP1SameCallSameResult(t *testing.T) {
	d := dice(52)
	for range 200 {
		u := thrown(&d)
		first := u.calls()
		for range 5 {
			if again := u.calls(); !reflect.DeepEqual(first, again) {
				t.Fatalf("%v, then %v", first, again)
			}
		}
	}
}

func TestP1NilIsEmpty(t *testing.T) {
	none := house(2, 1, 2)
	empty := none
	empty.Doors = []api.Door{}
	for _, c := range [][2]use{
		{{}, {h: api.House{Doors: []api.Door{}}, doors: []int{}, amounts: []int{}, traps: []api.Trap{}, touches: []api.Touch{}}},
		{{h: none}, {h: empty, doors: []int{}, amounts: []int{}, traps: []api.Trap{}, touches: []api.Touch{}}},
		{{h: three()}, {h: three(), doors: []int{}, amounts: []int{}, traps: []api.Trap{}, touches: []api.Touch{}}},
	} {
		a, b := c[0].calls(), c[1].calls()
		for name := range a {
			if !slices.EqualFunc(a[name], b[name], func(x, y any) bool { return zero(x) && zero(y) || reflect.DeepEqual(x, y) }) {
				t.Errorf("%s: %v of nil, %v of the empty ones", name, a[name], b[name])
			}
		}
	}
}

// roomy puts a list at the beginning of longer memory.
func roomy[T any](l []T, more T) []T { return slices.Concat(l, []T{more, more})[:len(l)] }

// roomyUse has all its lists at the beginning of longer memory.
func roomyUse(u use) use {
	u.h.Doors = roomy(u.h.Doors, door(7, 7, 7))
	u.doors = roomy(u.doors, 7)
	u.amounts = roomy(u.amounts, 7)
	u.traps = roomy(u.traps, trap(7, 7, true))
	u.touches = roomy(u.touches, api.Touch{Who: 7, What: 7})
	return u
}

// memory copies all memory of what the calls are made with.
func (u use) memory() []any {
	return all(slices.Clone(u.h.Doors[:cap(u.h.Doors)]), slices.Clone(u.doors[:cap(u.doors)]), slices.Clone(u.amounts[:cap(u.amounts)]), slices.Clone(u.traps[:cap(u.traps)]), slices.Clone(u.touches[:cap(u.touches)]))
}

// spoil writes over all memory of all results.
func spoil(results map[string][]any) {
	for _, r := range results {
		for _, x := range r {
			switch v := x.(type) {
			case api.House:
				spoilList(v.Doors, door(-9, -9, -9))
			case api.Cut:
				spoilList(v.Doors, -9)
				spoilList(v.Amount, -8)
			case []int:
				spoilList(v, -9)
			}
		}
	}
}

func spoilList[T any](l []T, with T) {
	for i := range l[:cap(l)] {
		l[:cap(l)][i] = with
	}
}

func TestP81ArgumentsStay(t *testing.T) {
	d := dice(53)
	for range 1000 {
		u := roomyUse(thrown(&d))
		before := u.memory()
		spoil(u.calls())
		if after := u.memory(); !reflect.DeepEqual(before, after) {
			t.Fatalf("%v became %v", before, after)
		}
	}
}

func TestP81ResultsAreNew(t *testing.T) {
	d := dice(54)
	for range 300 {
		u := thrown(&d)
		first := u.calls()
		spoil(u.calls())
		if again := u.calls(); !reflect.DeepEqual(first, again) {
			t.Fatalf("%v became %v", first, again)
		}
		if c, _ := pest.Cheapest(u.h); len(c.Doors) > 0 {
			before := slices.Clone(c.Amount)
			spoilList(c.Doors, -9)
			if !slices.Equal(before, c.Amount) {
				t.Fatalf("the lists of %v share memory", c)
			}
		}
	}
}
