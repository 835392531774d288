package carve_test

import (
	"math"
	"reflect"
	"slices"
	"strings"
	"testing"

	"armature/api"
	"armature/carve"
)

// use is what all calls of the package are made with.
type use struct {
	a, b    api.Block
	x, y, z api.View
	l       []api.Grain
	n       int
	text    string
}

func all(results ...any) []any { return results }

// calls makes every call, and returns the results of each.
func (u use) calls() map[string][]any {
	return map[string][]any{
		"ValidBlock": all(carve.ValidBlock(u.a)), "ValidView": all(carve.ValidView(u.x)), "Within": all(carve.Within(u.a, u.b)), "Format": all(carve.Format(u.a)),
		"Full": all(carve.Full(u.n)), "Count": all(carve.Count(u.a)), "Grains": all(carve.Grains(u.a)), "Of": all(carve.Of(u.n, u.l)), "Of its side": all(carve.Of(u.a.Side, u.l)),
		"View": all(carve.View(u.a, u.n)), "Hull": all(carve.Hull(u.x, u.y, u.z)), "Possible": all(carve.Possible(u.x, u.y, u.z)), "Wrong": all(carve.Wrong(u.x, u.y, u.z)),
		"Carved": all(carve.Carved(u.a, u.l)), "Both": all(carve.Both(u.a, u.b)), "Either": all(carve.Either(u.a, u.b)), "Mirrored": all(carve.Mirrored(u.a, u.n)), "Turned": all(carve.Turned(u.a, u.n)),
		"Pieces": all(carve.Pieces(u.a)), "Standing": all(carve.Standing(u.a)), "Faces": all(carve.Faces(u.a)), "Girth": all(carve.Girth(u.a, u.n)), "Spare": all(carve.Spare(u.a)), "Parse": all(carve.Parse(u.text)),
	}
}

// thrown is what all calls succeed with, or nearly all.
func thrown(d *dice) use {
	side := 1 + d.throw(api.MaxSide)
	b := d.block(side)
	text := carve.Format(b)
	return use{d.block(side), b, d.view(side), d.view(side), d.view(side), grainsOf(d.block(side)), d.throw(min(side, 3)), text}
}

func zero(x any) bool {
	v := reflect.ValueOf(x)
	return v.IsZero() || v.Kind() == reflect.Slice && v.Len() == 0
}

// leftovers returns the calls that fail and have other results all the same.
func leftovers(results map[string][]any) []string {
	var l []string
	for name, r := range results {
		last := len(r) - 1
		e, can := r[last].(api.Errno)
		if name == "Parse" && e == api.ErrSyntax {
			r = r[:1] // the line comes with this error
			last = 1
		}
		if can && e != api.OK && slices.ContainsFunc(r[:last], func(x any) bool { return !zero(x) }) {
			l = append(l, name)
		}
	}
	return l
}

func TestP51EndsWithoutPanic(t *testing.T) {
	texts := []string{"", "\n", "\xff", mixedText, mixedText + "x", "side 10\n", "side 11\n", strings.Repeat("#", 1<<17), strings.Repeat("\n", api.MaxText)}
	someBlocks := append(wrongBlocks(), two(), arch(), empty(1), full(1), full(10), empty(10))
	someViews := append(wrongViews(), outline("#. .#"), outline("## ##"), outline("#"), api.View{Side: 10, Has: make([]bool, 100)})
	lists := [][]api.Grain{nil, {grain(0, 0, 0)}, {grain(0, 0, 0), grain(0, 0, 0)}, wrongGrains(2), grainsOf(full(10)), make([]api.Grain, 1<<16)}
	numbers := append(wrongNumbers(), 0, 1, 2, 3, 9, 10, math.MinInt32, math.MaxInt32)
	for i, a := range someBlocks {
		for j, x := range someViews {
			k := i*len(someViews) + j
			u := use{a, someBlocks[(k+j)%len(someBlocks)], x, someViews[(k+i)%len(someViews)], someViews[k*k%len(someViews)], lists[k%len(lists)], numbers[k%len(numbers)], texts[k%len(texts)]}
			if l := leftovers(u.calls()); len(l) > 0 {
				t.Fatalf("%v of %v", l, u)
			}
		}
	}
}

func TestP1SameCallSameResult(t *testing.T) {
	d := dice(51)
	for range 50 {
		u := thrown(&d)
		first := u.calls()
		for range 5 {
			if again := u.calls(); !reflect.DeepEqual(first, again) {
				t.Fatalf("%v, then %v", first, again)
			}
		}
	}
}

func TestP1NilIsEmpty(t *testing.T) {
	a := use{n: 1}.calls()
	none := []bool{}
	b := use{a: api.Block{Has: none}, b: api.Block{Has: none}, x: api.View{Has: none}, y: api.View{Has: none}, z: api.View{Has: none}, l: []api.Grain{}, n: 1}.calls()
	if !reflect.DeepEqual(a, b) {
		t.Errorf("%v of nil, %v of the empty ones", a, b)
	}
	c, e := carve.Carved(two(), nil)
	if d, f := carve.Carved(two(), []api.Grain{}); e != api.OK || f != api.OK || !same(c, d) {
		t.Errorf("Carved = %v, %d of nil, %v, %d of an empty list", c, e, d, f)
	}
}

// roomy puts a list at the beginning of longer memory.
func roomy[T any](l []T, more T) []T { return slices.Concat(l, []T{more, more})[:len(l)] }

// lists returns all memory of what the calls are made with.
func (u use) lists() (values [][]bool, grains []api.Grain) {
	for _, has := range [][]bool{u.a.Has, u.b.Has, u.x.Has, u.y.Has, u.z.Has} {
		values = append(values, has[:cap(has)])
	}
	return values, u.l[:cap(u.l)]
}

// spoil writes over all memory of all results.
func spoil(results map[string][]any) {
	turn := func(has []bool) {
		for i, is := range has[:cap(has)] {
			has[:cap(has)][i] = !is
		}
	}
	for _, r := range results {
		for _, x := range r {
			switch v := x.(type) {
			case api.Block:
				turn(v.Has)
			case api.View:
				turn(v.Has)
			case []api.Grain:
				clear(v[:cap(v)])
			case []int:
				clear(v[:cap(v)])
			}
		}
	}
}

func TestP51ArgumentsStay(t *testing.T) {
	d := dice(52)
	for range 100 {
		u := thrown(&d)
		for _, has := range []*[]bool{&u.a.Has, &u.b.Has, &u.x.Has, &u.y.Has, &u.z.Has} {
			*has = roomy(*has, true)
		}
		u.l = roomy(u.l, grain(7, 7, 7))
		values, grains := u.lists()
		var before [][]bool
		for _, has := range values {
			before = append(before, slices.Clone(has))
		}
		grainsBefore := slices.Clone(grains)
		spoil(u.calls())
		if !reflect.DeepEqual(before, values) || !slices.Equal(grainsBefore, grains) {
			t.Fatalf("%v, %v became %v, %v", before, grainsBefore, values, grains)
		}
	}
}

func TestP51ResultsAreNew(t *testing.T) {
	d := dice(53)
	for range 20 {
		u := thrown(&d)
		first := u.calls()
		spoil(u.calls())
		if again := u.calls(); !reflect.DeepEqual(first, again) {
			t.Fatalf("%v became %v", first, again)
		}
	}
}
