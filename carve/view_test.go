package carve_test

import (
	"math"
	"slices"
	"testing"

	"armature/api"
	"armature/carve"
)

// views asks for the three views of a block.
func views(t *testing.T, b api.Block) [3]api.View {
	var l [3]api.View
	for axis := range l {
		v, e := carve.View(b, axis)
		if e != api.OK {
			t.Fatalf("View(%v, %d) = %d", b, axis, e)
		}
		l[axis] = v
	}
	return l
}

func TestP53View(t *testing.T) {
	want := [3]api.View{outline("#..# #..# #### ...#"), outline("#.#. #.#. ###. ...#"), outline("#... #... ###. ..##")}
	for axis, got := range views(t, arch()) {
		if !sameView(got, want[axis]) {
			t.Errorf("View(%d) = %v; want %v", axis, got, want[axis])
		}
	}
	for _, b := range blocks(11, 10) {
		want := viewsOf(b)
		for axis, got := range views(t, b) {
			if !sameView(got, want[axis]) {
				t.Errorf("View(%v, %d) = %v; want %v", b, axis, got, want[axis])
			}
		}
	}
}

func TestP53ViewErrors(t *testing.T) {
	for _, axis := range append(wrongNumbers(), 3) {
		if v, e := carve.View(two(), axis); v.Side != 0 || len(v.Has) != 0 || e != api.ErrRange {
			t.Errorf("View(%d) = %v, %d", axis, v, e)
		}
	}
	for _, b := range wrongBlocks() {
		for _, axis := range []int{math.MinInt, -1, 0, 2, 3} {
			if v, e := carve.View(b, axis); v.Side != 0 || len(v.Has) != 0 || e != api.ErrInvalid {
				t.Errorf("View(%v, %d) = %v, %d", b, axis, v, e)
			}
		}
	}
}

func TestP52Wrong(t *testing.T) {
	none := func(side int) api.View { return api.View{Side: side, Has: make([]bool, side*side)} }
	corner, whole := outline("#. .."), outline("## ##")
	for _, c := range []struct {
		x, y, z    api.View
		axis, u, v int
		e          api.Errno
	}{
		{whole, corner, corner, 0, 1, 0, api.OK}, {corner, whole, corner, 1, 1, 0, api.OK}, {corner, corner, whole, 2, 1, 0, api.OK}, {whole, whole, corner, 0, 1, 0, api.OK}, {corner, whole, whole, 1, 0, 1, api.OK},
		{corner, corner, outline("#. .#"), 2, 1, 1, api.OK}, {corner, outline("#. #."), corner, 1, 0, 1, api.OK}, {outline("#. ##"), corner, corner, 0, 0, 1, api.OK},
		// First by v, then by u.
		{outline("#.. ... ..."), outline("#.. ... ..."), outline("#.. ..# .#."), 2, 2, 1, api.OK}, {outline("#.. ... ..."), outline("#.. .#. #.#"), outline("#.. ... ..."), 1, 1, 1, api.OK},
		// One view with nothing dark leaves nothing.
		{none(2), corner, corner, 1, 0, 0, api.OK}, {corner, none(2), none(2), 0, 0, 0, api.OK}, {none(2), none(2), outline(".. .#"), 2, 1, 1, api.OK},
		{corner, corner, corner, 0, 0, 0, api.ErrNone}, {whole, whole, whole, 0, 0, 0, api.ErrNone}, {outline("#"), outline("#"), outline("#"), 0, 0, 0, api.ErrNone}, {outline("#"), outline("."), outline("#"), 0, 0, 0, api.OK},
		{none(1), none(1), none(1), 0, 0, 0, api.ErrNone}, {none(10), none(10), none(10), 0, 0, 0, api.ErrNone},
	} {
		axis, u, v, e := carve.Wrong(c.x, c.y, c.z)
		if axis != c.axis || u != c.u || v != c.v || e != c.e {
			t.Errorf("Wrong(%v, %v, %v) = %d, %d, %d, %d; want %d, %d, %d, %d", c.x, c.y, c.z, axis, u, v, e, c.axis, c.u, c.v, c.e)
		}
		if ok, e := carve.Possible(c.x, c.y, c.z); ok != (c.e == api.ErrNone) || e != api.OK {
			t.Errorf("Possible(%v, %v, %v) = %t, %d", c.x, c.y, c.z, ok, e)
		}
	}
}

// firstMissing says anew which square is first dark in a view, and not in another one.
func firstMissing(given, seen [3]api.View) (axis, u, v int, found bool) {
	for axis := range given {
		side := given[axis].Side
		for v := range side {
			for u := range side {
				if given[axis].Has[u+side*v] && !seen[axis].Has[u+side*v] {
					return axis, u, v, true
				}
			}
		}
	}
	return 0, 0, 0, false
}

// checkViews asks about views of which the greatest block within them is known.
func checkViews(t *testing.T, v [3]api.View, greatest api.Block) {
	t.Helper()
	if hull, e := carve.Hull(v[0], v[1], v[2]); e != api.OK || !same(hull, greatest) {
		t.Fatalf("Hull(%v) = %v, %d; want %v", v, hull, e, greatest)
	}
	axis, u, w, found := firstMissing(v, viewsOf(greatest))
	if ok, e := carve.Possible(v[0], v[1], v[2]); e != api.OK || ok == found {
		t.Fatalf("Possible(%v) = %t, %d", v, ok, e)
	}
	gotAxis, gotU, gotV, e := carve.Wrong(v[0], v[1], v[2])
	if gotAxis != axis || gotU != u || gotV != w || (e == api.OK) != found || (e == api.ErrNone) == found {
		t.Fatalf("Wrong(%v) = %d, %d, %d, %d; want %d, %d, %d, %t", v, gotAxis, gotU, gotV, e, axis, u, w, found)
	}
}

// bits makes values of a number's bits.
func bits(n, count int) []bool {
	var l []bool
	for i := range count {
		l = append(l, n>>i&1 == 1)
	}
	return l
}

// TestP6GreatestOfAll holds the hull of all views of the side 2 against all blocks.
func TestP6GreatestOfAll(t *testing.T) {
	var seen [256][3]api.View
	for n := range seen {
		seen[n] = viewsOf(api.Block{Side: 2, Has: bits(n, 8)})
	}
	for n := range 1 << 12 {
		v := [3]api.View{{Side: 2, Has: bits(n, 4)}, {Side: 2, Has: bits(n>>4, 4)}, {Side: 2, Has: bits(n>>8, 4)}}
		union, just := 0, false
		for block, w := range seen {
			if darker(w[0], v[0]) || darker(w[1], v[1]) || darker(w[2], v[2]) {
				continue
			}
			union |= block
			_, _, _, missing := firstMissing(v, w)
			just = just || !missing
		}
		checkViews(t, v, api.Block{Side: 2, Has: bits(union, 8)})
		if ok, _ := carve.Possible(v[0], v[1], v[2]); ok != just {
			t.Fatalf("Possible(%v) = %t; want %t", v, ok, just)
		}
	}
}

// hullOf says anew which grains have three dark squares.
func hullOf(v [3]api.View) api.Block {
	side := v[0].Side
	return blockOf(side, slices.DeleteFunc(grainsOf(full(side)), func(g api.Grain) bool {
		return !v[0].Has[g.Y+side*g.Z] || !v[1].Has[g.X+side*g.Z] || !v[2].Has[g.X+side*g.Y]
	}))
}

func TestP52GreatestOfSome(t *testing.T) {
	d := dice(12)
	possible, wrong := 0, 0
	for range 3000 {
		side := 1 + d.throw(api.MaxSide)
		v := [3]api.View{d.view(side), d.view(side), d.view(side)}
		checkViews(t, v, hullOf(v))
		// Views of a body, perhaps with a square that is too much or too little.
		v = viewsOf(d.block(side))
		checkViews(t, v, hullOf(v))
		i := d.throw(side * side)
		v[d.throw(3)].Has[i] = d.throw(2) == 0
		checkViews(t, v, hullOf(v))
		if ok, _ := carve.Possible(v[0], v[1], v[2]); ok {
			possible++
		} else {
			wrong++
		}
	}
	if possible < 300 || wrong < 300 {
		t.Errorf("only %d possible and %d wrong views", possible, wrong)
	}
}

func TestP52HullHoldsWhatFits(t *testing.T) {
	d := dice(13)
	for range 3000 {
		side := 1 + d.throw(5)
		b := api.Block{Side: side, Has: d.values(side*side*side, 1+d.throw(4))}
		v := viewsOf(b)
		for _, x := range v { // dark elsewhere too
			x.Has[d.throw(len(x.Has))] = true
		}
		hull, e := carve.Hull(v[0], v[1], v[2])
		if e != api.OK || !carve.Within(b, hull) {
			t.Fatalf("Hull(%v) = %v, %d does not hold %v", v, hull, e, b)
		}
		for axis, seen := range views(t, hull) {
			if darker(seen, v[axis]) {
				t.Fatalf("Hull(%v) = %v is darker along %d", v, hull, axis)
			}
		}
	}
}

func TestP53HullOfABody(t *testing.T) {
	for _, b := range blocks(14, 20) {
		v := views(t, b)
		hull, e := carve.Hull(v[0], v[1], v[2])
		if e != api.OK || !carve.Within(b, hull) {
			t.Errorf("Hull of the views of %v = %v, %d", b, hull, e)
		}
		for axis, seen := range views(t, hull) {
			if !sameView(seen, v[axis]) {
				t.Errorf("View(%d) of the hull of %v = %v; want %v", axis, b, seen, v[axis])
			}
		}
		if ok, e := carve.Possible(v[0], v[1], v[2]); e != api.OK || !ok {
			t.Errorf("Possible of the views of %v = %t, %d", b, ok, e)
		}
	}
	v := views(t, two())
	if hull, e := carve.Hull(v[0], v[1], v[2]); e != api.OK || !same(hull, two()) {
		t.Errorf("Hull of two grains = %v, %d", hull, e)
	}
}

func TestP52ViewsErrors(t *testing.T) {
	right := outline("#. .#")
	cases := [][3]api.View{{right, right, outline("#")}, {right, outline("#"), right}, {outline("#"), right, right}, {outline("#"), outline("#"), right}, {outline("#"), right, outline("#.. ... ...")}}
	for _, w := range wrongViews() {
		cases = append(cases, [3]api.View{w, right, right}, [3]api.View{right, w, right}, [3]api.View{right, right, w}, [3]api.View{w, w, w})
	}
	for _, v := range cases {
		if b, e := carve.Hull(v[0], v[1], v[2]); b.Side != 0 || len(b.Has) != 0 || e != api.ErrInvalid {
			t.Errorf("Hull(%v) = %v, %d", v, b, e)
		}
		if ok, e := carve.Possible(v[0], v[1], v[2]); ok || e != api.ErrInvalid {
			t.Errorf("Possible(%v) = %t, %d", v, ok, e)
		}
		if axis, u, w, e := carve.Wrong(v[0], v[1], v[2]); axis != 0 || u != 0 || w != 0 || e != api.ErrInvalid {
			t.Errorf("Wrong(%v) = %d, %d, %d, %d", v, axis, u, w, e)
		}
	}
}

// spareOf takes each grain away and looks again.
func spareOf(b api.Block) []api.Grain {
	all, before := grainsOf(b), viewsOf(b)
	var l []api.Grain
	for i, g := range all {
		after := viewsOf(blockOf(b.Side, slices.Delete(slices.Clone(all), i, i+1)))
		if _, _, _, missing := firstMissing(before, after); !missing {
			l = append(l, g)
		}
	}
	return l
}

func TestP55Spare(t *testing.T) {
	for _, c := range []struct {
		b    api.Block
		want []api.Grain
	}{
		{two(), nil}, {empty(3), nil}, {full(1), nil}, {full(2), grainsOf(full(2))}, {full(10), grainsOf(full(10))}, {arch(), nil},
		{block("## ##", "## #."), []api.Grain{grain(0, 0, 0), grain(1, 0, 0), grain(0, 1, 0), grain(0, 0, 1)}},
		// A flat body has no spare grain, and one that hides another along two axes is none.
		{block("## ##", ".. .."), nil}, {block("## #.", ".. .."), nil}, {block("## #.", "#. .."), []api.Grain{grain(0, 0, 0)}},
	} {
		if l, e := carve.Spare(c.b); e != api.OK || !slices.Equal(l, c.want) {
			t.Errorf("Spare(%v) = %v, %d; want %v", c.b, l, e, c.want)
		}
	}
	d := dice(15)
	found := 0
	for range 1000 {
		b := d.block(1 + d.throw(5))
		want := spareOf(b)
		if l, e := carve.Spare(b); e != api.OK || !slices.Equal(l, want) {
			t.Fatalf("Spare(%v) = %v, %d; want %v", b, l, e, want)
		}
		found += len(want)
	}
	if found < 1000 {
		t.Errorf("only %d spare grains", found)
	}
	for _, b := range wrongBlocks() {
		if l, e := carve.Spare(b); len(l) != 0 || e != api.ErrInvalid {
			t.Errorf("Spare(%v) = %v, %d", b, l, e)
		}
	}
}

func TestP55WithoutASpareGrain(t *testing.T) {
	for _, b := range blocks(16, 2) {
		before := views(t, b)
		l, _ := carve.Spare(b)
		for _, g := range l {
			c, e := carve.Carved(b, []api.Grain{g})
			for axis, after := range views(t, c) {
				if e != api.OK || !sameView(after, before[axis]) {
					t.Fatalf("%v without %v has another view along %d, %d", b, g, axis, e)
				}
			}
		}
	}
}
