package scene_test

import (
	"math"
	"slices"
	"testing"

	"armature/api"
	"armature/scene"
)

func TestP71Valid(t *testing.T) {
	for _, g := range []api.Ground{ground(1, 1), ground(24, 24), level(24, 24, maxHeight), ground(1, 24), ground(24, 1, 0, maxHeight), ground(3, 2, 0, 1, 2, 3, 4, maxHeight)} {
		if !scene.Valid(g) {
			t.Errorf("Valid(%v) = false", g)
		}
	}
	for _, g := range wrongGrounds() {
		if scene.Valid(g) {
			t.Errorf("Valid of %d by %d with %d heights = true", g.Wide, g.Deep, len(g.Height))
		}
	}
}

func TestP71ValidEye(t *testing.T) {
	for _, g := range []api.Ground{ground(1, 1), ground(24, 24), ground(3, 2, 5), ground(2, 3)} {
		for _, e := range corners(g) {
			if !scene.ValidEye(g, e) {
				t.Errorf("ValidEye(%v, %v) = false", g, e)
			}
		}
		for _, e := range wrongEyes(g) {
			if scene.ValidEye(g, e) {
				t.Errorf("ValidEye(%v, %v) = true", g, e)
			}
		}
	}
	for _, g := range wrongGrounds() {
		for _, e := range []api.Eye{eye(0, 1, 0), eye(0, 100, 2000)} {
			if scene.ValidEye(g, e) {
				t.Errorf("ValidEye of %d by %d with %d heights = true", g.Wide, g.Deep, len(g.Height))
			}
		}
	}
}

func TestP71Cell(t *testing.T) {
	d := dice(1)
	for range 100 {
		g := d.ground(api.MaxCells)
		for i, want := range g.Height {
			if n, e := scene.Cell(g, i%g.Wide, i/g.Wide); e != api.OK || n != want {
				t.Fatalf("Cell(%v, %d) = %d, %d; want %d", g, i, n, e, want)
			}
		}
		for _, c := range wrongCells(g) {
			if n, e := scene.Cell(g, c[0], c[1]); n != 0 || e != api.ErrRange {
				t.Fatalf("Cell(%v, %v) = %d, %d", g, c, n, e)
			}
		}
	}
	for _, g := range wrongGrounds() {
		for _, c := range [][2]int{{0, 0}, {-1, 0}, {99, 99}} {
			if n, e := scene.Cell(g, c[0], c[1]); n != 0 || e != api.ErrInvalid {
				t.Errorf("Cell of no ground = %d, %d", n, e)
			}
		}
	}
}

func TestP71With(t *testing.T) {
	d := dice(2)
	for range 300 {
		g := d.ground(5)
		x, y, _ := d.point(g)
		cell := x + g.Wide*y
		for _, n := range []int{0, 1, d.throw(maxHeight + 1), maxHeight - g.Height[cell]} {
			want, wantError := ground(g.Wide, g.Deep, g.Height...), api.OK
			if want.Height[cell] += n; want.Height[cell] > maxHeight {
				want, wantError = api.Ground{}, api.ErrLimit
			}
			if k, e := scene.With(g, x, y, n); e != wantError || !sameGround(k, want) {
				t.Fatalf("With(%v, %d, %d, %d) = %v, %d; want %v, %d", g, x, y, n, k, e, want, wantError)
			}
		}
	}
}

func TestP71WithErrors(t *testing.T) {
	g := ground(2, 3, 1000, 1, 0)
	for _, c := range []struct {
		x, y, height int
		want         api.Errno
	}{{0, 0, 1, api.ErrLimit}, {0, 0, 1000, api.ErrLimit}, {0, 0, 0, api.OK}, {1, 0, 999, api.OK}, {1, 0, 1000, api.ErrLimit}, {0, 1, 1000, api.OK}, {0, 0, 1001, api.ErrRange}, {0, 0, -1, api.ErrRange}, {1, 0, -1, api.ErrRange}} {
		if k, e := scene.With(g, c.x, c.y, c.height); e != c.want || e != api.OK && !isZero(k) {
			t.Errorf("With(%v) = %v, %d", c, k, e)
		}
	}
	for _, c := range wrongCells(g) {
		for _, n := range []int{0, 1000, -1} {
			if k, e := scene.With(g, c[0], c[1], n); !isZero(k) || e != api.ErrRange {
				t.Errorf("With(%v, %d) = %v, %d", c, n, k, e)
			}
		}
	}
	for _, n := range wrongUpTo(maxHeight) {
		if k, e := scene.With(g, 1, 2, n); !isZero(k) || e != api.ErrRange {
			t.Errorf("With a height of %d = %v, %d", n, k, e)
		}
	}
	for _, g := range wrongGrounds() {
		for _, n := range []int{0, 1, -1, 1001} {
			if k, e := scene.With(g, 0, n, n); !isZero(k) || e != api.ErrInvalid {
				t.Errorf("With for no ground = %v, %d", k, e)
			}
		}
	}
}

func TestP75Raised(t *testing.T) {
	d := dice(3)
	for range 200 {
		g := d.ground(6)
		least, most := -slices.Min(g.Height), maxHeight-slices.Max(g.Height)
		for _, by := range []int{0, least, most, least + d.throw(most-least+1)} {
			k, e := scene.Raised(g, by)
			want := ground(g.Wide, g.Deep, g.Height...)
			for i := range want.Height {
				want.Height[i] += by
			}
			if e != api.OK || !sameGround(k, want) {
				t.Fatalf("Raised(%v, %d) = %v, %d", g, by, k, e)
			}
		}
		for _, by := range []int{least - 1, most + 1, 1001, -1001, 1 << 32, math.MinInt, math.MinInt + 1000, math.MaxInt, math.MaxInt - 500} {
			if k, e := scene.Raised(g, by); !isZero(k) || e != api.ErrLimit {
				t.Fatalf("Raised(%v, %d) = %v, %d", g, by, k, e)
			}
		}
	}
	for _, g := range wrongGrounds() {
		for _, by := range []int{0, 1, -1, math.MaxInt} {
			if k, e := scene.Raised(g, by); !isZero(k) || e != api.ErrInvalid {
				t.Errorf("Raised of no ground = %v, %d", k, e)
			}
		}
	}
}

func TestP75Mirrored(t *testing.T) {
	if g, e := scene.Mirrored(ground(3, 2, 1, 2, 3, 4, 5, 6)); e != api.OK || !sameGround(g, ground(3, 2, 3, 2, 1, 6, 5, 4)) {
		t.Errorf("Mirrored = %v, %d", g, e)
	}
	d := dice(4)
	for range 200 {
		g := d.ground(api.MaxCells)
		k, e := scene.Mirrored(g)
		if e != api.OK || !scene.Valid(k) || k.Wide != g.Wide || k.Deep != g.Deep {
			t.Fatalf("Mirrored(%v) = %v, %d", g, k, e)
		}
		for i, h := range g.Height {
			if x, y := i%g.Wide, i/g.Wide; k.Height[g.Wide-1-x+g.Wide*y] != h {
				t.Fatalf("Mirrored(%v) = %v", g, k)
			}
		}
	}
	for _, g := range wrongGrounds() {
		if k, e := scene.Mirrored(g); !isZero(k) || e != api.ErrInvalid {
			t.Errorf("Mirrored of no ground = %v, %d", k, e)
		}
	}
}

func TestP75Highest(t *testing.T) {
	for _, c := range []struct {
		g    api.Ground
		x, y int
	}{{ground(1, 1), 0, 0}, {ground(2, 2, 1, 7, 7, 7), 1, 0}, {ground(2, 2, 1, 6, 7, 7), 0, 1}, {level(24, 24, 1000), 0, 0}, {ground(3, 2, 0, 0, 0, 0, 0, 1), 2, 1}, {ground(3, 2, 0, 0, 5, 5, 0, 1), 2, 0}, {ground(2, 3, 1, 2, 3, 4, 5, 5), 0, 2}} {
		if x, y, e := scene.Highest(c.g); e != api.OK || x != c.x || y != c.y {
			t.Errorf("Highest(%v) = %d, %d, %d", c.g, x, y, e)
		}
	}
	d := dice(5)
	for range 300 {
		g := d.ground(6)
		x, y, e := scene.Highest(g)
		at := x + g.Wide*y
		for i, h := range g.Height {
			if e != api.OK || h > g.Height[at] || h == g.Height[at] && i < at {
				t.Fatalf("Highest(%v) = %d, %d, %d", g, x, y, e)
			}
		}
	}
	for _, g := range wrongGrounds() {
		if x, y, e := scene.Highest(g); x != 0 || y != 0 || e != api.ErrInvalid {
			t.Errorf("Highest of no ground = %d, %d, %d", x, y, e)
		}
	}
}
