package scene_test

import (
	"math"
	"reflect"
	"slices"
	"strings"
	"testing"

	"armature/api"
	"armature/scene"
)

// use is what all calls of the package are made with.
type use struct {
	g              api.Ground
	e              api.Eye
	eyes           []api.Eye
	x, y, h, n     int
	heights, cells []int
	text           string
}

func all(results ...any) []any { return results }

// calls makes every call, and returns the results of each.
func (u use) calls() map[string][]any {
	return map[string][]any{
		"Valid": all(scene.Valid(u.g)), "ValidEye": all(scene.ValidEye(u.g, u.e)), "Cell": all(scene.Cell(u.g, u.x, u.y)), "With": all(scene.With(u.g, u.x, u.y, u.n)),
		"Crosses": all(scene.Crosses(u.g, u.e, u.x, u.y, u.n)), "Seen": all(scene.Seen(u.g, u.e, u.x, u.y, u.h)), "Hides": all(scene.Hides(u.g, u.e, u.x, u.y, u.h)), "Least": all(scene.Least(u.g, u.e, u.x, u.y)), "All": all(scene.All(u.g, u.e)),
		"Eyes": all(scene.Eyes(u.g, u.eyes, u.x, u.y, u.h)), "Looks": all(scene.Looks(u.g, u.e, u.y, u.h)), "Same": all(scene.Same(u.g, u.e, u.y, u.h, u.n)),
		"Placed": all(scene.Placed(u.g, u.e, u.heights)), "Right": all(scene.Right(u.g, u.e, u.heights, u.cells)),
		"Raised": all(scene.Raised(u.g, u.n)), "Mirrored": all(scene.Mirrored(u.g)), "Highest": all(scene.Highest(u.g)), "Format": all(scene.Format(u.g)), "Parse": all(scene.Parse(u.text)),
	}
}

// thrown is what all calls succeed with, or nearly all.
func thrown(d *dice) use {
	g := d.ground(6)
	x, y, h := d.point(g)
	u := use{g: g, e: d.eye(g), x: x, y: y, h: h, n: d.throw(g.Deep), heights: d.mounts(), text: scene.Format(g)}
	for range d.throw(5) {
		u.eyes = append(u.eyes, d.eye(g))
	}
	u.cells = d.list(len(u.heights), len(g.Height))
	return u
}

func zero(x any) bool {
	switch v := reflect.ValueOf(x); v.Kind() {
	case reflect.Slice:
		return v.Len() == 0
	case reflect.Struct:
		if g, ok := x.(api.Ground); ok {
			return isZero(g)
		}
		return v.IsZero()
	default:
		return v.IsZero()
	}
}

// leftovers returns the calls that fail and have other results all the same.
func leftovers(results map[string][]any) []string {
	var l []string
	for name, r := range results {
		last := len(r) - 1
		e, can := r[last].(api.Errno)
		if name == "Parse" && e == api.ErrSyntax {
			r = r[:1] // the line comes with this error
			last = 1
		}
		if can && e != api.OK && slices.ContainsFunc(r[:last], func(x any) bool { return !zero(x) }) {
			l = append(l, name)
		}
	}
	return l
}

func TestP71EndsWithoutPanic(t *testing.T) {
	texts := []string{"", "\n", "\xff", hillText, hillText + "x", "ground 24 24\n", "ground 1 1\n5\n", strings.Repeat("ground 1 1\n", 7), strings.Repeat(" ", api.MaxText+1), strings.Repeat(" ", 99)}
	grounds := append(wrongGrounds(), hill(), level(24, 24, 1000), ground(1, 24, 1000), ground(24, 1), ground(2, 3, 1, 2, 3))
	eyes := append(wrongEyes(hill()), corners(hill())...)
	numbers := []int{math.MinInt, math.MinInt + 1, -1001, -1, 0, 1, 2, 3, 23, 24, 1000, 1001, 3000, 3001, 1 << 32, math.MaxInt - 1, math.MaxInt}
	lists := [][]int{nil, {}, {0}, {1}, {5, 5}, {0, 1, 2, 3, 4, 5}, make([]int, 7), make([]int, 1<<12), {-1}, {1000, 0}, {1001}, {math.MinInt, math.MaxInt}, {1 << 32}}
	d := dice(51)
	for range 20 {
		for _, g := range grounds {
			for _, e := range eyes {
				u := use{g: g, e: e, eyes: eyes[d.throw(len(eyes)):], text: texts[d.throw(len(texts))], heights: lists[d.throw(len(lists))], cells: lists[d.throw(len(lists))]}
				for _, n := range []*int{&u.x, &u.y, &u.h, &u.n} {
					*n = numbers[d.throw(len(numbers))]
				}
				if found := leftovers(u.calls()); len(found) > 0 {
					t.Fatalf("%v of %v", found, u)
				}
			}
		}
	}
}

func TestP71EndsSoon(t *testing.T) {
	for _, height := range []int{0, 500, 1000} {
		g := level(24, 24, height)
		for _, e := range corners(g) {
			u := use{g: g, e: e, eyes: slices.Repeat([]api.Eye{e}, 20), x: 23, y: 23, h: 0, n: 1, heights: []int{1000 - height, 0, 0, 0, 0, 1000 - height}, cells: []int{575, 574, 573, 572, 571, 570}}
			u.calls()
		}
	}
}

func TestP1SameCallSameResult(t *testing.T) {
	d := dice(52)
	for range 200 {
		u := thrown(&d)
		first := u.calls()
		for range 5 {
			if again := u.calls(); !reflect.DeepEqual(first, again) {
				t.Fatalf("%v, then %v", first, again)
			}
		}
	}
}

func TestP1NilIsEmpty(t *testing.T) {
	g, e := ridge()
	for _, c := range [][2]use{
		{{}, {g: api.Ground{Height: []int{}}, eyes: []api.Eye{}, heights: []int{}, cells: []int{}}},
		{{g: g, e: e}, {g: g, e: e, eyes: []api.Eye{}, heights: []int{}, cells: []int{}}},
		{{g: api.Ground{Wide: 1, Deep: 1}}, {g: api.Ground{Wide: 1, Deep: 1, Height: []int{}}}},
	} {
		a, b := c[0].calls(), c[1].calls()
		if !reflect.DeepEqual(a, b) {
			t.Errorf("%v of nil, %v of the empty ones", a, b)
		}
	}
}

// roomy puts a list at the beginning of longer memory.
func roomy[T any](l []T, more T) []T { return slices.Concat(l, []T{more, more})[:len(l)] }

// roomyUse has all its lists at the beginning of longer memory.
func roomyUse(u use) use {
	u.g.Height = roomy(u.g.Height, 7)
	u.eyes = roomy(u.eyes, eye(7, 7, 7))
	u.heights = roomy(u.heights, 7)
	u.cells = roomy(u.cells, 7)
	return u
}

// memory copies all memory of what the calls are made with.
func (u use) memory() []any {
	return all(slices.Clone(u.g.Height[:cap(u.g.Height)]), slices.Clone(u.eyes[:cap(u.eyes)]), slices.Clone(u.heights[:cap(u.heights)]), slices.Clone(u.cells[:cap(u.cells)]))
}

// spoil writes over all memory of all results.
func spoil(results map[string][]any) {
	for _, r := range results {
		for _, x := range r {
			switch v := x.(type) {
			case api.Ground:
				for i := range v.Height[:cap(v.Height)] {
					v.Height[:cap(v.Height)][i] = -9
				}
			case []bool:
				clear(v[:cap(v)])
			case []int:
				for i := range v[:cap(v)] {
					v[:cap(v)][i] = -9
				}
			}
		}
	}
}

func TestP71ArgumentsStay(t *testing.T) {
	d := dice(53)
	for range 1000 {
		u := roomyUse(thrown(&d))
		before := u.memory()
		spoil(u.calls())
		if after := u.memory(); !reflect.DeepEqual(before, after) {
			t.Fatalf("%v became %v", before, after)
		}
	}
}

func TestP71ResultsAreNew(t *testing.T) {
	d := dice(54)
	for range 300 {
		u := thrown(&d)
		first := u.calls()
		spoil(u.calls())
		if again := u.calls(); !reflect.DeepEqual(first, again) {
			t.Fatalf("%v became %v", first, again)
		}
	}
}
