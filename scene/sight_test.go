package scene_test

import (
	"slices"
	"testing"

	"armature/api"
	"armature/scene"
)

func TestP72Crosses(t *testing.T) {
	wide := ground(5, 5)
	for _, c := range []struct {
		e         api.Eye
		x, y, row int
		want      []int
	}{
		{eye(0, 1, 0), 1, 1, 0, []int{0, 1}}, {eye(1, 1, 0), 0, 1, 0, []int{0, 1}}, {eye(0, 1, 0), 2, 1, 0, []int{1}}, {eye(0, 1, 0), 3, 1, 0, []int{1, 2}}, {eye(4, 1, 0), 3, 1, 0, []int{3, 4}},
		{eye(2, 1, 0), 2, 4, 3, []int{2}}, {eye(0, 1, 0), 1, 2, 0, []int{0}}, {eye(0, 1, 0), 1, 2, 1, []int{1}}, {eye(0, 1, 0), 4, 4, 3, []int{3}}, {eye(0, 2, 0), 4, 4, 3, []int{3}}, {eye(0, 4, 0), 4, 4, 1, []int{2, 3}}, {eye(4, 4, 0), 0, 4, 1, []int{1, 2}}, {eye(0, 100, 0), 1, 4, 0, []int{1}}, {eye(1, 100, 9), 0, 4, 0, []int{0}}, {eye(4, 3, 7), 4, 1, 0, []int{4}}, {eye(4, 1, 0), 0, 3, 1, []int{2}},
	} {
		n, l, e := scene.Crosses(wide, c.e, c.x, c.y, c.row)
		if e != api.OK || n != len(c.want) || !slices.Equal(l, c.want) {
			t.Errorf("Crosses(%v) = %d, %v, %d", c, n, l, e)
		}
	}
}

// TestP72CrossesAll compares all lines of some grounds with a second account.
func TestP72CrossesAll(t *testing.T) {
	for _, g := range []api.Ground{ground(1, 3), ground(2, 4), ground(5, 4), ground(7, 6), ground(4, 9)} {
		for at := range g.Wide {
			for _, before := range []int{1, 2, 3, 4, 7, 99, 100} {
				for i := range g.Wide * g.Deep {
					checkCrosses(t, g, eye(at, before, 50), i%g.Wide, i/g.Wide)
				}
			}
		}
	}
	d := dice(11)
	for range 500 {
		g := d.ground(api.MaxCells)
		x, y, _ := d.point(g)
		checkCrosses(t, g, d.eye(g), x, y)
	}
}

func checkCrosses(t *testing.T, g api.Ground, e api.Eye, x, y int) {
	t.Helper()
	for row := range y {
		n, l, err := scene.Crosses(g, e, x, y, row)
		if want := crossesOf(g, e, x, y, row); err != api.OK || n != len(l) || !slices.Equal(l, want) {
			t.Fatalf("Crosses(%d by %d, %v, %d, %d, %d) = %d, %v, %d; want %v", g.Wide, g.Deep, e, x, y, row, n, l, err, want)
		}
	}
}

func TestP72CrossesErrors(t *testing.T) {
	g := ground(3, 4)
	e := eye(1, 2, 3)
	for y := range g.Deep {
		for _, row := range append(wrongUpTo(y-1), y, y+1, g.Deep) {
			if n, l, err := scene.Crosses(g, e, 1, y, row); n != 0 || len(l) != 0 || err != api.ErrRange {
				t.Errorf("Crosses of the row %d before %d = %d, %v, %d", row, y, n, l, err)
			}
		}
	}
	for _, c := range wrongCells(g) {
		for _, row := range []int{0, -1, 2} {
			if n, l, err := scene.Crosses(g, e, c[0], c[1], row); n != 0 || len(l) != 0 || err != api.ErrRange {
				t.Errorf("Crosses to %v = %d, %v, %d", c, n, l, err)
			}
		}
	}
	for _, row := range []int{0, 1, -1, 9} {
		for _, e := range wrongEyes(g) {
			if n, l, err := scene.Crosses(g, e, 1, 3, row); n != 0 || len(l) != 0 || err != api.ErrInvalid {
				t.Errorf("Crosses from %v = %d, %v, %d", e, n, l, err)
			}
		}
		for _, g := range wrongGrounds() {
			if n, l, err := scene.Crosses(g, eye(0, 1, 0), 0, 3, row); n != 0 || len(l) != 0 || err != api.ErrInvalid {
				t.Errorf("Crosses of no ground = %d, %v, %d", n, l, err)
			}
		}
	}
}

func TestP72Seen(t *testing.T) {
	g, e := ridge()
	for _, c := range []struct {
		g       api.Ground
		e       api.Eye
		x, y, h int
		want    bool
	}{
		{g, e, 0, 2, 24, false}, {g, e, 0, 2, 25, true}, {g, e, 0, 2, 0, false}, {g, e, 0, 2, 3000, true}, {g, e, 0, 1, 0, true}, {g, e, 0, 0, 0, true},
		// The line just touches the ground, from above and from below.
		{ground(1, 2, 10), eye(0, 1, 10), 0, 1, 10, true}, {ground(1, 2, 10), eye(0, 1, 10), 0, 1, 9, false}, {ground(1, 2, 10), eye(0, 1, 0), 0, 1, 20, true}, {ground(1, 2, 10), eye(0, 1, 0), 0, 1, 19, false}, {ground(1, 2, 10), eye(0, 1, 20), 0, 1, 0, true}, {ground(1, 2, 10), eye(0, 1, 19), 0, 1, 0, false},
		// A line between two cells is hidden by each of them, and one over a single cell by no other one.
		{ground(2, 2, 10, 0), eye(0, 1, 0), 1, 1, 0, false}, {ground(2, 2, 0, 10), eye(0, 1, 0), 1, 1, 0, false}, {ground(3, 2, 9, 0, 9), eye(0, 1, 0), 2, 1, 0, true}, {ground(3, 2, 0, 1, 0), eye(0, 1, 0), 2, 1, 0, false},
		// A cell's own height, and what lies behind it or in its row, hide nothing.
		{ground(2, 3, 0, 0, 1000, 1000, 1000, 1000), eye(0, 1, 0), 0, 1, 0, true}, {level(2, 2, 1000), eye(0, 1, 0), 1, 0, 0, true}, {level(1, 24, 1000), eye(0, 100, 1000), 0, 23, 1000, true}, {level(1, 24, 1000), eye(0, 100, 1000), 0, 23, 999, false},
	} {
		if ok, err := scene.Seen(c.g, c.e, c.x, c.y, c.h); err != api.OK || ok != c.want {
			t.Errorf("Seen(%v) = %t, %d", c, ok, err)
		}
	}
}

// scenes throws grounds with eyes.
func scenes(seed dice, n, most int, check func(d *dice, g api.Ground, e api.Eye)) {
	for range n {
		g := seed.ground(most)
		check(&seed, g, seed.eye(g))
	}
}

func TestP73SeenAndHides(t *testing.T) {
	scenes(12, 1500, 9, func(d *dice, g api.Ground, e api.Eye) {
		for range 8 {
			x, y, h := d.point(g)
			want := hidersOf(g, e, x, y, h)
			ok, err := scene.Seen(g, e, x, y, h)
			if err != api.OK || ok != (len(want) == 0) {
				t.Fatalf("Seen(%v, %v, %d, %d, %d) = %t, %d", g, e, x, y, h, ok, err)
			}
			cx, cy, err := scene.Hides(g, e, x, y, h)
			if ok && (cx != 0 || cy != 0 || err != api.ErrNone) || !ok && (err != api.OK || cx+g.Wide*cy != want[0]) {
				t.Fatalf("Hides(%v, %v, %d, %d, %d) = %d, %d, %d; want %v", g, e, x, y, h, cx, cy, err, want)
			}
			if _, l, err := scene.Crosses(g, e, x, y, cy); !ok && (err != api.OK || !slices.Contains(l, cx)) {
				t.Fatalf("Hides(%v, %v, %d, %d, %d) = %d, %d, which is none of %v", g, e, x, y, h, cx, cy, l)
			}
		}
	})
}

func TestP73Hides(t *testing.T) {
	for _, c := range []struct {
		g       api.Ground
		e       api.Eye
		x, y, h int
		cx, cy  int
	}{
		{ground(1, 3, 0, 50, 0), eye(0, 1, 100), 0, 2, 0, 0, 1}, {ground(1, 3, 9, 9, 9), eye(0, 1, 0), 0, 2, 0, 0, 0}, {ground(1, 4, 0, 0, 9), eye(0, 1, 0), 0, 3, 1, 0, 2},
		// Of two cells of a row the left one is first, also if it is the lower one; of two rows the nearer one.
		{ground(2, 2, 5, 9), eye(0, 1, 0), 1, 1, 0, 0, 0}, {ground(2, 2, 5, 9), eye(1, 1, 0), 0, 1, 0, 0, 0}, {ground(2, 2, 0, 9), eye(1, 1, 0), 0, 1, 0, 1, 0}, {ground(3, 3, 0, 3, 0, 9, 9, 9), eye(1, 1, 0), 1, 2, 0, 1, 0}, {ground(2, 4, 0, 0, 7, 7, 9, 9), eye(0, 1, 0), 1, 3, 0, 0, 1},
	} {
		if x, y, err := scene.Hides(c.g, c.e, c.x, c.y, c.h); err != api.OK || x != c.cx || y != c.cy {
			t.Errorf("Hides(%v) = %d, %d, %d", c, x, y, err)
		}
	}
}

// TestP73Mounts sets up mounts, which make no point seen that was not.
func TestP73Mounts(t *testing.T) {
	scenes(13, 500, 6, func(d *dice, g api.Ground, e api.Eye) {
		x, y, _ := d.point(g)
		mounted, err := scene.With(g, x, y, d.throw(maxHeight-g.Height[x+g.Wide*y]+1))
		if err != api.OK {
			t.Fatalf("With(%v) = %d", g, err)
		}
		for range 20 {
			x, y, h := d.point(g)
			before, _ := scene.Seen(g, e, x, y, h)
			if after, _ := scene.Seen(mounted, e, x, y, h); after && !before {
				t.Fatalf("(%d, %d) at %d is seen from %v in %v, but not in %v", x, y, h, e, mounted, g)
			}
		}
	})
}

func TestP72HigherIsSeen(t *testing.T) {
	scenes(14, 60, 9, func(d *dice, g api.Ground, e api.Eye) {
		x, y, _ := d.point(g)
		was := false
		for h := range maxPoint + 1 {
			ok, err := scene.Seen(g, e, x, y, h)
			if err != api.OK || was && !ok {
				t.Fatalf("Seen(%v, %v, %d, %d, %d) = %t, %d, but it was seen lower", g, e, x, y, h, ok, err)
			}
			was = ok
		}
	})
}

func TestP72Least(t *testing.T) {
	for _, c := range []struct {
		g    api.Ground
		e    api.Eye
		x, y int
		want int // -1: none
	}{
		{ground(1, 3, 0, 50, 0), eye(0, 1, 100), 0, 2, 25}, {ground(1, 3, 0, 50, 9), eye(0, 1, 100), 0, 2, 25}, {ground(1, 3, 0, 50, 0), eye(0, 1, 100), 0, 1, 0}, {level(3, 3, 1000), eye(0, 1, 0), 2, 0, 0}, {ground(1, 2, 1000), eye(0, 1, 0), 0, 1, 2000},
		// 3000 is the last height that there is: 1000 at 1 / 3 of the way, and at 1 / 4 from a third as high.
		{ground(1, 3, 1000), eye(0, 1, 0), 0, 2, 3000}, {ground(1, 4, 1000), eye(0, 1, 0), 0, 3, -1}, {ground(1, 4, 1000), eye(0, 1, 333), 0, 3, -1}, {ground(1, 4, 1000), eye(0, 1, 334), 0, 3, 2998}, {ground(1, 24, 1000), eye(0, 1, 0), 0, 23, -1}, {ground(1, 24, 1000), eye(0, 1, 1000), 0, 23, 1000}, {ground(1, 24, 1000), eye(0, 1, 999), 0, 23, 1023}, {ground(1, 2, 1000), eye(0, 1, 2000), 0, 1, 0},
		// Rounded up: 10 at 2 / 3 of the way from 0, and from 11.
		{ground(1, 3, 0, 10), eye(0, 1, 0), 0, 2, 15}, {ground(1, 4, 0, 0, 10), eye(0, 1, 0), 0, 3, 14}, {ground(1, 4, 0, 0, 10), eye(0, 1, 11), 0, 3, 10}, {ground(2, 2, 3, 5), eye(0, 1, 0), 1, 1, 10},
	} {
		want, wantError := c.want, api.OK
		if want < 0 {
			want, wantError = 0, api.ErrNone
		}
		if n, err := scene.Least(c.g, c.e, c.x, c.y); n != want || err != wantError {
			t.Errorf("Least(%v) = %d, %d", c, n, err)
		}
	}
	scenes(15, 1500, 9, func(d *dice, g api.Ground, e api.Eye) {
		x, y, _ := d.point(g)
		h, err := scene.Least(g, e, x, y)
		if err == api.ErrNone && h == 0 && !seenOf(g, e, x, y, maxPoint) {
			return
		}
		if err != api.OK || h < 0 || h > maxPoint || !seenOf(g, e, x, y, h) || h > 0 && seenOf(g, e, x, y, h-1) {
			t.Fatalf("Least(%v, %v, %d, %d) = %d, %d", g, e, x, y, h, err)
		}
	})
}

func TestP72All(t *testing.T) {
	scenes(16, 200, 7, func(d *dice, g api.Ground, e api.Eye) {
		l, err := scene.All(g, e)
		if err != api.OK || len(l) != len(g.Height) {
			t.Fatalf("All(%v, %v) = %v, %d", g, e, l, err)
		}
		for i, ok := range l {
			if ok != seenOf(g, e, i%g.Wide, i/g.Wide, g.Height[i]) {
				t.Fatalf("All(%v, %v) = %v, wrong at %d", g, e, l, i)
			}
		}
	})
	g := ground(2, 3, 0, 9, 0, 0, 0, 9)
	for _, c := range []struct {
		e    api.Eye
		want []bool
	}{{eye(0, 1, 0), []bool{true, true, true, false, true, true}}, {eye(1, 1, 9), []bool{true, true, false, false, false, true}}} {
		if l, err := scene.All(g, c.e); err != api.OK || !slices.Equal(l, c.want) {
			t.Errorf("All(%v) = %v, %d", c, l, err)
		}
	}
}

// TestP75Raising raises ground, eye and point by the same, and turns left and right about: what is seen stays.
func TestP75Raising(t *testing.T) {
	scenes(17, 1000, 8, func(d *dice, g api.Ground, e api.Eye) {
		x, y, h := d.point(g)
		most := min(maxHeight-slices.Max(g.Height), maxEye-e.Height, maxPoint-h)
		least := -min(slices.Min(g.Height), e.Height, h)
		by := least + d.throw(most-least+1)
		raised, _ := scene.Raised(g, by)
		mirrored, _ := scene.Mirrored(g)
		want := seenOf(g, e, x, y, h)
		for _, c := range []struct {
			g    api.Ground
			e    api.Eye
			x, h int
		}{{raised, eye(e.X, e.Before, e.Height+by), x, h + by}, {mirrored, eye(g.Wide-1-e.X, e.Before, e.Height), g.Wide - 1 - x, h}} {
			if ok, err := scene.Seen(c.g, c.e, c.x, y, c.h); err != api.OK || ok != want {
				t.Fatalf("Seen(%v, %d) = %t, %d, but it is %t in %v from %v", c, y, ok, err, want, g, e)
			}
		}
	})
}

func TestP73Eyes(t *testing.T) {
	d := dice(18)
	for range 300 {
		g := d.ground(7)
		x, y, h := d.point(g)
		var l []api.Eye
		var want []int
		for i := range d.throw(21) {
			l = append(l, d.eye(g))
			if seenOf(g, l[i], x, y, h) {
				want = append(want, i)
			}
		}
		if found, err := scene.Eyes(g, l, x, y, h); err != api.OK || !slices.Equal(found, want) {
			t.Fatalf("Eyes(%v, %v, %d, %d, %d) = %v, %d; want %v", g, l, x, y, h, found, err, want)
		}
	}
}

func TestP73EyesErrors(t *testing.T) {
	g, e := ridge()
	eyes := slices.Repeat([]api.Eye{e}, 21)
	if l, err := scene.Eyes(g, eyes[:20], 0, 0, 0); err != api.OK || len(l) != 20 || l[19] != 19 {
		t.Errorf("Eyes of 20 = %v, %d", l, err)
	}
	for _, c := range []struct {
		l       []api.Eye
		x, y, h int
		want    api.Errno
	}{
		{nil, 0, 0, 0, api.OK}, {nil, 0, 3, 0, api.ErrRange}, {nil, 0, 0, 3001, api.ErrRange}, {eyes, 0, 0, 0, api.ErrRange}, {eyes[:1], 0, 0, -1, api.ErrRange}, {eyes[:1], 0, 0, 3001, api.ErrRange}, {eyes[:1], 1, 0, 0, api.ErrRange}, {eyes[:1], 0, -1, 0, api.ErrRange},
		// An eye that is none comes before all else.
		{[]api.Eye{{}}, 0, 0, 0, api.ErrInvalid}, {append(slices.Clone(eyes), api.Eye{}), 0, 0, 0, api.ErrInvalid}, {[]api.Eye{e, {}, e}, 5, 5, 5, api.ErrInvalid}, {make([]api.Eye, 1<<12), 0, 0, 0, api.ErrInvalid}, {slices.Repeat(eyes, 99), -1, 0, 0, api.ErrRange},
	} {
		if l, err := scene.Eyes(g, c.l, c.x, c.y, c.h); len(l) != 0 || err != c.want {
			t.Errorf("Eyes of %d for (%d, %d) at %d = %v, %d; want %d", len(c.l), c.x, c.y, c.h, l, err, c.want)
		}
	}
	for _, wrong := range wrongEyes(g) {
		for _, l := range [][]api.Eye{{wrong}, {e, wrong}, {wrong, e}} {
			if l, err := scene.Eyes(g, l, 0, 0, 0); len(l) != 0 || err != api.ErrInvalid {
				t.Errorf("Eyes of %v = %v, %d", wrong, l, err)
			}
		}
	}
	for _, wrong := range wrongGrounds() {
		for _, l := range [][]api.Eye{nil, {e}, eyes} {
			if l, err := scene.Eyes(wrong, l, 0, 9, 0); len(l) != 0 || err != api.ErrInvalid {
				t.Errorf("Eyes for no ground = %v, %d", l, err)
			}
		}
	}
}

func TestP72Errors(t *testing.T) {
	check := func(g api.Ground, e api.Eye, x, y, h int, want api.Errno) {
		t.Helper()
		if ok, err := scene.Seen(g, e, x, y, h); ok || err != want {
			t.Errorf("Seen from %v of (%d, %d) at %d = %t, %d; want %d", e, x, y, h, ok, err, want)
		}
		if cx, cy, err := scene.Hides(g, e, x, y, h); cx != 0 || cy != 0 || err != want {
			t.Errorf("Hides from %v of (%d, %d) at %d = %d, %d, %d; want %d", e, x, y, h, cx, cy, err, want)
		}
	}
	checkLeast := func(g api.Ground, e api.Eye, x, y int, want api.Errno) {
		t.Helper()
		if h, err := scene.Least(g, e, x, y); h != 0 || err != want {
			t.Errorf("Least from %v of (%d, %d) = %d, %d; want %d", e, x, y, h, err, want)
		}
	}
	g := ground(3, 2, 9, 9, 9)
	e := eye(2, 1, 0)
	for _, h := range wrongUpTo(maxPoint) {
		check(g, e, 1, 1, h, api.ErrRange)
	}
	for _, c := range wrongCells(g) {
		check(g, e, c[0], c[1], 0, api.ErrRange)
		checkLeast(g, e, c[0], c[1], api.ErrRange)
	}
	for _, y := range []int{0, 1, 2, -1} {
		for _, e := range wrongEyes(g) {
			check(g, e, 1, y, 3*y-1, api.ErrInvalid)
			checkLeast(g, e, 1, y, api.ErrInvalid)
			if l, err := scene.All(g, e); len(l) != 0 || err != api.ErrInvalid {
				t.Errorf("All from %v = %v, %d", e, l, err)
			}
		}
		for _, g := range wrongGrounds() {
			check(g, eye(0, 1, 0), 0, y, 0, api.ErrInvalid)
			checkLeast(g, eye(0, 1, 0), 0, y, api.ErrInvalid)
			if l, err := scene.All(g, eye(0, 1, 0)); len(l) != 0 || err != api.ErrInvalid {
				t.Errorf("All of no ground = %v, %d", l, err)
			}
		}
	}
}
