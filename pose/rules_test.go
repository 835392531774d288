package pose_test

import (
	"math"
	"reflect"
	"slices"
	"strings"
	"testing"

	"armature/api"
	"armature/pose"
)

// use is what all calls of the package are made with.
type use struct {
	l    []api.Bone
	p    []int
	to   api.Way
	n    int
	feet []api.Way
	x, y api.Ratio
	text string
}

func all(results ...any) []any { return results }

// calls makes every call, and returns the results of each.
func (u use) calls() map[string][]any {
	var b api.Bone
	if len(u.l) > 0 {
		b = u.l[0]
	}
	return map[string][]any{
		"ValidBone": all(pose.ValidBone(b)), "ValidLeg": all(pose.ValidLeg(u.l)), "ValidPose": all(pose.ValidPose(u.l, u.p)), "Format": all(pose.Format(u.l)),
		"End": all(pose.End(u.l, u.p)), "Joints": all(pose.Joints(u.l, u.p)), "Weight": all(pose.Weight(u.l)), "Moment": all(pose.Moment(u.l, u.p)), "Centre": all(pose.Centre(u.l, u.p)),
		"Ends": all(pose.Ends(u.l)), "Reaches": all(pose.Reaches(u.l, u.to)), "First": all(pose.First(u.l, u.to)), "Count": all(pose.Count(u.l, u.to)),
		"Lowest": all(pose.Lowest(u.l, u.to)), "Steadiest": all(pose.Steadiest(u.l, u.to, u.n)), "Nearest": all(pose.Nearest(u.l, u.to)), "Mirrored": all(pose.Mirrored(u.l)),
		"Hull": all(pose.Hull(u.feet)), "Over": all(pose.Over(u.feet, u.x, u.y)), "Stands": all(pose.Stands(u.l, u.p, u.feet)), "Parse": all(pose.Parse(u.text)),
	}
}

// thrown is what all calls succeed with, or nearly all.
func thrown(d *dice) use {
	l := d.leg(1 + d.throw(api.MaxBones))
	p, feet := d.pose(l), d.feet()
	x, y := d.nearEdge(feet[0], feet[len(feet)-1])
	return use{l, p, endOf(l, d.pose(l)), d.around(9), feet, x, y, pose.Format(l)}
}

func zero(x any) bool {
	v := reflect.ValueOf(x)
	return v.IsZero() || v.Kind() == reflect.Slice && v.Len() == 0
}

// leftovers returns the calls that fail and have other results all the same.
func leftovers(results map[string][]any) []string {
	var l []string
	for name, r := range results {
		last := len(r) - 1
		e, can := r[last].(api.Errno)
		if name == "Parse" && e == api.ErrSyntax {
			r = r[:1] // the line comes with this error
			last = 1
		}
		if can && e != api.OK && slices.ContainsFunc(r[:last], func(x any) bool { return !zero(x) }) {
			l = append(l, name)
		}
	}
	return l
}

func TestP61EndsWithoutPanic(t *testing.T) {
	texts := []string{"", "\n", "\xff", mixedText, mixedText + "x", "1 ,\n", strings.Repeat("1 0,0\n", 7), strings.Repeat(",", api.MaxText+1), strings.Repeat(" ", 99)}
	someLegs := append(wrongLegs(), bent(), swapped(), farthest(), []api.Bone{bone(0, 0, 0)}, widest()[:3])
	somePoses := append(wrongPoses(), []int{0, 0}, []int{1, 1}, make([]int, 6))
	targets := append(wrongTargets(), way(0, 0), way(0, -8), way(farTarget, farTarget))
	someFeet := append(wrongFeet(), ways(0, 0), ways(0, 0, 1, 1), ways(-20000, -20000, 20000, 20000, 20000, -20000))
	fractions := append(wrongFractions(), whole(0), whole(maxN), fraction(-maxN, maxD))
	numbers := []int{math.MinInt, -1, 0, 1, math.MaxInt}
	for i, l := range someLegs {
		for j, p := range somePoses {
			k := i*len(somePoses) + j
			u := use{l, p, targets[k%len(targets)], numbers[k%len(numbers)], someFeet[k%len(someFeet)], fractions[k%len(fractions)], fractions[k*k%len(fractions)], texts[k%len(texts)]}
			if found := leftovers(u.calls()); len(found) > 0 {
				t.Fatalf("%v of %v", found, u)
			}
		}
	}
}

func TestP61EndsSoon(t *testing.T) {
	for _, l := range [][]api.Bone{widest(), slices.Repeat([]api.Bone{along(0, 1, 2, 3, 4, 5, 6, 7)}, 6)} {
		for range 3 {
			u := use{l: l, p: make([]int, 6), to: way(21, 0), feet: ways(0, 0), x: whole(0), y: whole(0)}
			u.calls()
		}
	}
}

func TestP1SameCallSameResult(t *testing.T) {
	d := dice(41)
	for range 200 {
		u := thrown(&d)
		first := u.calls()
		for range 5 {
			if again := u.calls(); !reflect.DeepEqual(first, again) {
				t.Fatalf("%v, then %v", first, again)
			}
		}
	}
}

func TestP1NilIsEmpty(t *testing.T) {
	a := use{}.calls()
	b := use{l: []api.Bone{}, p: []int{}, feet: []api.Way{}}.calls()
	if !reflect.DeepEqual(a, b) {
		t.Errorf("%v of nil, %v of the empty ones", a, b)
	}
	c := use{l: []api.Bone{{Weight: 1}}}.calls()
	d := use{l: []api.Bone{{Weight: 1, Ways: []api.Way{}}}}.calls()
	if !reflect.DeepEqual(c, d) {
		t.Errorf("%v of nil ways, %v of empty ones", c, d)
	}
}

// roomy puts a list at the beginning of longer memory.
func roomy[T any](l []T, more T) []T { return slices.Concat(l, []T{more, more})[:len(l)] }

// roomyUse has all its lists at the beginning of longer memory.
func roomyUse(u use) use {
	u.l = roomy(u.l, bone(7, 7, 7))
	for i := range u.l {
		u.l[i].Ways = roomy(u.l[i].Ways, way(7, 7))
	}
	u.p = roomy(u.p, 7)
	u.feet = roomy(u.feet, way(7, 7))
	return u
}

// memory copies all memory of what the calls are made with.
func (u use) memory() []any {
	l := slices.Clone(u.l[:cap(u.l)])
	for i := range l {
		ways := l[i].Ways
		l[i].Ways = slices.Clone(ways[:cap(ways)])
	}
	return all(l, slices.Clone(u.p[:cap(u.p)]), slices.Clone(u.feet[:cap(u.feet)]))
}

// spoil writes over all memory of all results.
func spoil(results map[string][]any) {
	for _, r := range results {
		for _, x := range r {
			switch v := x.(type) {
			case []api.Bone:
				for _, b := range v {
					clear(b.Ways[:cap(b.Ways)])
				}
				clear(v[:cap(v)])
			case []api.Way:
				clear(v[:cap(v)])
			case []int:
				clear(v[:cap(v)])
			}
		}
	}
}

func TestP61ArgumentsStay(t *testing.T) {
	d := dice(42)
	for range 500 {
		u := roomyUse(thrown(&d))
		before := u.memory()
		spoil(u.calls())
		if after := u.memory(); !reflect.DeepEqual(before, after) {
			t.Fatalf("%v became %v", before, after)
		}
	}
}

func TestP61ResultsAreNew(t *testing.T) {
	d := dice(43)
	for range 200 {
		u := thrown(&d)
		first := u.calls()
		spoil(u.calls())
		if again := u.calls(); !reflect.DeepEqual(first, again) {
			t.Fatalf("%v became %v", first, again)
		}
	}
}

// TestP61BonesApart appends to the ways of one bone of a result, which must not show in another one.
func TestP61BonesApart(t *testing.T) {
	d := dice(44)
	for range 200 {
		l := d.leg(2 + d.throw(5))
		parsed, _, _ := pose.Parse(pose.Format(l))
		mirrored, _ := pose.Mirrored(l)
		again, _ := pose.Mirrored(mirrored)
		for _, k := range [][]api.Bone{parsed, again} {
			for i := range k {
				k[i].Ways = append(k[i].Ways, way(9, 9))[:len(k[i].Ways)]
			}
			if !sameLeg(k, l) {
				t.Fatalf("%v became %v", l, k)
			}
		}
	}
}
