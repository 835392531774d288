package pose_test

import (
	"cmp"
	"math/big"
	"slices"
	"testing"

	"armature/api"
	"armature/pose"
)

func TestP64Hull(t *testing.T) {
	for _, c := range []struct{ feet, want []api.Way }{
		{ways(0, 0), ways(0, 0)}, {ways(3, 3, 3, 3), ways(3, 3)}, {slices.Repeat(ways(-20000, 20000), 8), ways(-20000, 20000)},
		{ways(4, 4, 0, 0, 2, 2), ways(0, 0, 4, 4)}, {ways(4, -4, 0, 0), ways(4, -4, 0, 0)}, {ways(5, 1, 3, 1, 4, 1, 3, 1), ways(3, 1, 5, 1)}, {ways(2, 9, 2, 5, 2, 7), ways(2, 5, 2, 9)}, {ways(20000, 20000, -20000, -20000), ways(-20000, -20000, 20000, 20000)},
		{ways(0, 0, 10, 0, 10, 10, 0, 10, 5, 0, 5, 5, 0, 0), ways(0, 0, 10, 0, 10, 10, 0, 10)}, {ways(0, 10, 10, 10, 10, 0, 0, 0), ways(0, 0, 10, 0, 10, 10, 0, 10)},
		// Points on every edge, also on the first and on the last one.
		{ways(0, 0, 2, 0, 4, 0, 4, 2, 4, 4, 2, 4, 0, 4, 0, 2), ways(0, 0, 4, 0, 4, 4, 0, 4)}, {ways(0, 0, 1, 3, 2, 6, 3, 9, 5, 1, 4, 5), ways(0, 0, 5, 1, 3, 9)}, {ways(0, 0, -1, 1, -2, 2, -3, 3, 5, 5, 1, 4), ways(0, 0, 5, 5, -3, 3)}, {ways(0, 0, 3, 3, 1, 1, -3, 3, -1, 1, 0, 3, -2, 3), ways(0, 0, 3, 3, -3, 3)},
		{ways(5, 0, 0, 5, -5, 0, 0, -5), ways(0, -5, 5, 0, 0, 5, -5, 0)}, {ways(1, 0, 0, 0, 0, 1), ways(0, 0, 1, 0, 0, 1)}, {ways(2, 1, 0, 2, 1, 0, 3, 2), ways(1, 0, 3, 2, 0, 2)},
		{ways(-20000, -20000, 20000, -20000, 20000, 20000, -20000, 20000, 19999, 19999, -20000, 0), ways(-20000, -20000, 20000, -20000, 20000, 20000, -20000, 20000)}, {ways(-20000, -20000, 20000, 19999, 20000, 20000), ways(-20000, -20000, 20000, 19999, 20000, 20000)},
		{ways(1, 0, 2, 0, 3, 1, 3, 2, 2, 3, 1, 3, 0, 2, 0, 1), ways(1, 0, 2, 0, 3, 1, 3, 2, 2, 3, 1, 3, 0, 2, 0, 1)},
	} {
		if h, e := pose.Hull(c.feet); e != api.OK || !slices.Equal(h, c.want) {
			t.Errorf("Hull(%v) = %v, %d; want %v", c.feet, h, e, c.want)
		}
	}
	for _, feet := range wrongFeet() {
		if h, e := pose.Hull(feet); len(h) != 0 || e != api.ErrRange {
			t.Errorf("Hull of %d feet = %v, %d", len(feet), h, e)
		}
	}
}

// cornersOf says anew which feet are corners: those that are not over the other ones.
func cornersOf(feet []api.Way) []api.Way {
	places := slices.Clone(feet)
	slices.SortFunc(places, func(a, b api.Way) int { return cmp.Or(a.Y-b.Y, a.X-b.X) })
	places = slices.Compact(places)
	var l []api.Way
	for i, p := range places {
		others := slices.Delete(slices.Clone(places), i, i+1)
		if !isOver(others, spotAt(p)) {
			l = append(l, p)
		}
	}
	return l
}

func TestP64HullOfSome(t *testing.T) {
	d := dice(21)
	var sizes [9]int
	for range 4000 {
		feet := d.feet()
		h, e := pose.Hull(feet)
		want := cornersOf(feet)
		if e != api.OK || len(h) != len(want) || h[0] != want[0] {
			t.Fatalf("Hull(%v) = %v, %d; want the corners %v", feet, h, e, want)
		}
		sizes[len(h)]++
		for i, a := range h {
			b := h[(i+1)%len(h)]
			if !slices.Contains(want, a) || slices.Contains(h[:i], a) {
				t.Fatalf("Hull(%v) = %v; want the corners %v", feet, h, want)
			}
			// Counterclockwise: all feet are to the left of each edge.
			for _, f := range feet {
				if len(h) > 2 && side(a, b, spotAt(f)) < 0 {
					t.Fatalf("Hull(%v) = %v, with %v to the right", feet, h, f)
				}
			}
		}
	}
	for n, count := range sizes {
		if n >= 1 && n <= 6 && count < 40 {
			t.Errorf("only %d hulls with %d corners", count, n)
		}
	}
}

func TestP65Over(t *testing.T) {
	square := ways(0, 0, 10, 0, 10, 10, 0, 10, 5, 5)
	line := ways(4, 4, 0, 0, 2, 2)
	flat := ways(-3, 7, 5, 7)
	upright := ways(7, -3, 7, 5)
	steep := ways(-20000, -20000, 20000, 19999, -20000, -19999)
	for _, c := range []struct {
		feet []api.Way
		x, y api.Ratio
		want bool
	}{
		{square, whole(5), whole(10), true}, {square, whole(0), whole(0), true}, {square, whole(10), whole(10), true}, {square, fraction(21, 2), whole(5), false}, {square, fraction(20, 2), whole(5), true}, {square, fraction(-1, maxD), whole(5), false}, {square, whole(5), fraction(-1, maxD), false}, {square, fraction(1, maxD), fraction(1, maxD), true},
		{square, fraction(99999999, maxD), fraction(1, 9999999), true}, {square, fraction(100000001, maxD), fraction(1, 9999999), false}, {square, whole(maxN), whole(5), false}, {square, whole(-maxN), whole(5), false}, {square, whole(5), whole(maxN), false}, {square, whole(5), whole(-maxN), false}, {square, fraction(maxN, maxD), fraction(maxN, maxD), false}, {square, fraction(5*maxD, maxD), fraction(0, maxD), true},
		{line, fraction(1, 2), fraction(2, 4), true}, {line, whole(0), whole(0), true}, {line, whole(4), whole(4), true}, {line, whole(5), whole(5), false}, {line, whole(-1), whole(-1), false}, {line, whole(2), whole(3), false}, {line, fraction(1, maxD), fraction(1, maxD-1), false}, {line, whole(4), fraction(4*maxD+1, maxD), false}, {line, fraction(4*maxD+1, maxD), fraction(4*maxD+1, maxD), false},
		{flat, whole(0), whole(7), true}, {flat, whole(5), whole(7), true}, {flat, whole(6), whole(7), false}, {flat, whole(-4), whole(7), false}, {flat, whole(0), whole(6), false}, {flat, whole(maxN), whole(7), false},
		{upright, whole(7), whole(0), true}, {upright, whole(7), whole(-3), true}, {upright, whole(7), whole(6), false}, {upright, whole(7), whole(-4), false}, {upright, whole(6), whole(0), false}, {upright, whole(7), whole(-maxN), false},
		{ways(3, 3), whole(3), whole(3), true}, {ways(3, 3), fraction(30, 10), fraction(3*maxD, maxD), true}, {ways(3, 3), whole(3), whole(4), false}, {ways(3, 3), whole(2), whole(3), false}, {ways(3, 3), fraction(3*maxD-1, maxD), whole(3), false}, {ways(3, 3, 3, 3), whole(3), fraction(3*maxD+1, maxD), false}, {ways(-3, 4), whole(3), whole(4), false},
		{steep, whole(0), fraction(-1, 2), true}, {steep, whole(0), fraction(-5000001, maxD), false}, {steep, whole(0), fraction(-4999999, maxD), true}, {steep, whole(0), whole(0), true}, {steep, whole(0), fraction(1, maxD), false}, {steep, fraction(1, maxD), whole(0), true}, {steep, fraction(-1, maxD), whole(0), false},
	} {
		if ok, e := pose.Over(c.feet, c.x, c.y); e != api.OK || ok != c.want {
			t.Errorf("Over(%v, %v, %v) = %t, %d", c.feet, c.x, c.y, ok, e)
		}
		if again := isOver(c.feet, spotOf(c.x, c.y)); again != c.want {
			t.Errorf("anew, %v, %v is over %v: %t", c.x, c.y, c.feet, again)
		}
	}
}

// nearEdge throws a point exactly on the line from a to b, or away from it by as little as its fractions tell.
func (d *dice) nearEdge(a, b api.Way) (x, y api.Ratio) {
	m := 1 + d.throw(maxD)
	if d.throw(3) == 0 {
		m = maxD
	}
	k := d.throw(m + 1)
	x = fraction(a.X*m+(b.X-a.X)*k, m)
	y = fraction(a.Y*m+(b.Y-a.Y)*k, m)
	switch d.throw(6) {
	case 0:
		x.N++
	case 1:
		x.N--
	case 2:
		y.N++
	case 3:
		y.N--
	case 4:
		x = fraction(d.around(maxN), 1+d.throw(maxD))
	}
	return x, y
}

func TestP65OverOfSome(t *testing.T) {
	d := dice(22)
	over := 0
	for range 6000 {
		feet := d.feet()
		x, y := d.nearEdge(feet[0], feet[len(feet)-1])
		want := isOver(feet, spotOf(x, y))
		if ok, e := pose.Over(feet, x, y); e != api.OK || ok != want {
			t.Fatalf("Over(%v, %v, %v) = %t, %d; want %t", feet, x, y, ok, e, want)
		}
		if want {
			over++
		}
	}
	if over < 1000 || over > 5000 {
		t.Errorf("%d points are over the feet", over)
	}
}

func TestP65FeetAreOverTheFeet(t *testing.T) {
	d := dice(23)
	for range 500 {
		feet := d.feet()
		for _, f := range feet {
			for _, k := range []int{1, 1 + d.throw(maxD/2), maxD} {
				if ok, e := pose.Over(feet, fraction(f.X*k, k), fraction(f.Y*k, k)); e != api.OK || !ok {
					t.Errorf("Over(%v, %v) = %t, %d", feet, f, ok, e)
				}
			}
		}
	}
}

// ratioOf makes a fraction of a big one, if it is not out of its range.
func ratioOf(r *big.Rat) (api.Ratio, bool) {
	q := fraction(int(r.Num().Int64()), int(r.Denom().Int64()))
	return q, r.Denom().IsInt64() && q.D <= maxD
}

func TestP65Halfway(t *testing.T) {
	d := dice(24)
	half, asked := big.NewRat(1, 2), 0
	for range 2000 {
		feet := d.feet()
		a, b := spotAt(feet[0]), spotAt(feet[len(feet)-1])
		for range 20 {
			middle := spot{new(big.Rat).Add(a.x, b.x), new(big.Rat).Add(a.y, b.y)}
			middle.x.Mul(middle.x, half)
			middle.y.Mul(middle.y, half)
			x, fitsX := ratioOf(middle.x)
			y, fitsY := ratioOf(middle.y)
			if !fitsX || !fitsY {
				break
			}
			asked++
			if ok, e := pose.Over(feet, x, y); e != api.OK || !ok {
				t.Fatalf("Over(%v, %v, %v) = %t, %d", feet, x, y, ok, e)
			}
			a, b = middle, spotAt(feet[d.throw(len(feet))])
		}
	}
	if asked < 10000 {
		t.Errorf("only %d points", asked)
	}
}

func TestP65FurtherFeet(t *testing.T) {
	d := dice(25)
	kept := 0
	for range 3000 {
		feet := d.feet()
		more := append(slices.Clone(feet), d.feet()...)
		x, y := d.nearEdge(feet[0], feet[len(feet)/2])
		if ok, e := pose.Over(feet, x, y); e != api.OK || !ok || len(more) > 8 {
			continue
		}
		kept++
		if ok, e := pose.Over(more, x, y); e != api.OK || !ok {
			t.Fatalf("Over(%v, %v, %v) = %t, %d, but not without the last ones", more, x, y, ok, e)
		}
	}
	if kept < 300 {
		t.Errorf("only %d points", kept)
	}
}

func TestP65OverErrors(t *testing.T) {
	for _, r := range wrongFractions() {
		for _, feet := range [][]api.Way{ways(0, 0), ways(0, 0, 1, 1), ways(0, 0, 1, 0, 0, 1), nil} {
			if ok, e := pose.Over(feet, r, whole(0)); ok || e != api.ErrRange {
				t.Errorf("Over(%v, %v, 0) = %t, %d", feet, r, ok, e)
			}
			if ok, e := pose.Over(feet, whole(0), r); ok || e != api.ErrRange {
				t.Errorf("Over(%v, 0, %v) = %t, %d", feet, r, ok, e)
			}
		}
	}
	for _, feet := range wrongFeet() {
		if ok, e := pose.Over(feet, whole(0), whole(0)); ok || e != api.ErrRange {
			t.Errorf("Over of %d feet = %t, %d", len(feet), ok, e)
		}
	}
}

func TestP65Stands(t *testing.T) {
	triangle := ways(-1, -6, 1, -6, 0, -4)
	for _, c := range []struct {
		l    []api.Bone
		p    []int
		feet []api.Way
		want bool
	}{
		{bent(), []int{0, 0}, triangle, true}, {bent(), []int{1, 0}, triangle, false}, {bent(), []int{0, 0}, ways(0, -5), true}, {bent(), []int{0, 0}, ways(0, -4, 0, -6), true}, {bent(), []int{0, 0}, ways(0, -6, 0, -7), false},
		{bent(), []int{1, 0}, ways(2, -5, 3, -5, 3, -4, 2, -4), true}, {bent(), []int{1, 0}, ways(2, -4, 3, -5, 3, -4), true}, {bent(), []int{1, 0}, ways(2, -4, 4, -5), false}, {bent(), []int{1, 0}, ways(0, -2, 9, -11), true}, {bent(), []int{1, 0}, ways(0, -2, 9, -10), false},
		{farthest(), make([]int, 6), ways(2999, 3001, 3001, 2999), true}, {farthest(), make([]int, 6), ways(2999, 3001, 3001, 3000), false},
	} {
		if ok, e := pose.Stands(c.l, c.p, c.feet); e != api.OK || ok != c.want {
			t.Errorf("Stands(%v, %v, %v) = %t, %d", c.l, c.p, c.feet, ok, e)
		}
	}
	d := dice(26)
	stands := 0
	for range 300 {
		for n := 1; n <= api.MaxBones; n++ {
			l := d.leg(n)
			p, feet, w := d.pose(l), d.feet(), int64(weightOf(l))
			ok, e := pose.Stands(l, p, feet)
			if w == 0 {
				if ok || e != api.ErrNone {
					t.Fatalf("Stands(%v, %v, %v) = %t, %d", l, p, feet, ok, e)
				}
				continue
			}
			m := momentOf(l, p)
			want := isOver(feet, spot{big.NewRat(int64(m.X), 2*w), big.NewRat(int64(m.Y), 2*w)})
			if e != api.OK || ok != want {
				t.Fatalf("Stands(%v, %v, %v) = %t, %d; want %t", l, p, feet, ok, e, want)
			}
			if want {
				stands++
			}
		}
	}
	if stands < 100 {
		t.Errorf("only %d poses stand", stands)
	}
}

func TestP65StandsErrors(t *testing.T) {
	light := []api.Bone{bone(0, 1, 1), bone(0, 2, 2)}
	for _, feet := range append(wrongFeet(), ways(0, 0)) {
		for _, p := range wrongPoses() {
			if ok, e := pose.Stands(bent(), p, feet); ok || e != api.ErrInvalid {
				t.Errorf("Stands of no pose = %t, %d", ok, e)
			}
			if ok, e := pose.Stands(light, p, feet); len(p) != 2 && (ok || e != api.ErrInvalid) {
				t.Errorf("Stands of no pose without weight = %t, %d", ok, e)
			}
		}
		for _, l := range wrongLegs()[:12] {
			if ok, e := pose.Stands(l, make([]int, len(l)), feet); ok || e != api.ErrInvalid {
				t.Errorf("Stands of no leg = %t, %d", ok, e)
			}
		}
	}
	for _, feet := range wrongFeet() {
		for _, l := range [][]api.Bone{bent(), light} {
			if ok, e := pose.Stands(l, []int{0, 0}, feet); ok || e != api.ErrRange {
				t.Errorf("Stands on %d feet = %t, %d", len(feet), ok, e)
			}
		}
	}
	if ok, e := pose.Stands(light, []int{0, 0}, ways(0, 0)); ok || e != api.ErrNone {
		t.Errorf("Stands without weight = %t, %d", ok, e)
	}
}
