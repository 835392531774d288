package scene_test

import (
	"math/big"
	"testing"

	"armature/api"
	"armature/scene"
)

func rat(r api.Ratio) *big.Rat { return big.NewRat(int64(r.N), int64(r.D)) }

// isRatio says whether a fraction is one in lowest terms, of some value.
func isRatio(r api.Ratio, want *big.Rat) bool {
	return want.Num().IsInt64() && int64(r.N) == want.Num().Int64() && int64(r.D) == want.Denom().Int64()
}

// look says anew how high something looks.
func look(e api.Eye, y, height int) *big.Rat {
	return big.NewRat(int64(height*e.Before), int64(y+e.Before))
}

func TestP74Looks(t *testing.T) {
	g := ground(2, 24)
	for _, c := range []struct {
		e         api.Eye
		y, height int
		want      api.Ratio
	}{
		{eye(0, 1, 100), 1, 11, api.Ratio{N: 11, D: 2}}, {eye(1, 1, 0), 0, 11, api.Ratio{N: 11, D: 1}}, {eye(1, 100, 0), 0, 3000, api.Ratio{N: 3000, D: 1}}, {eye(0, 5, 9), 7, 0, api.Ratio{N: 0, D: 1}}, {eye(0, 100, 9), 23, 3000, api.Ratio{N: 100000, D: 41}}, {eye(0, 1, 0), 23, 3000, api.Ratio{N: 125, D: 1}}, {eye(0, 2, 0), 2, 6, api.Ratio{N: 3, D: 1}}, {eye(0, 4, 0), 2, 1, api.Ratio{N: 2, D: 3}},
	} {
		if r, err := scene.Looks(g, c.e, c.y, c.height); err != api.OK || r != c.want {
			t.Errorf("Looks(%v) = %v, %d", c, r, err)
		}
	}
	scenes(21, 1000, api.MaxCells, func(d *dice, g api.Ground, e api.Eye) {
		y, height := d.throw(g.Deep), d.throw(maxPoint+1)
		if r, err := scene.Looks(g, e, y, height); err != api.OK || !isRatio(r, look(e, y, height)) {
			t.Fatalf("Looks(%v, %d, %d) = %v, %d", e, y, height, r, err)
		}
	})
}

func TestP74Same(t *testing.T) {
	g := ground(2, 24)
	for _, c := range []struct {
		e             api.Eye
		y, height, to int
		want          api.Ratio
	}{
		{eye(0, 1, 100), 1, 10, 2, api.Ratio{N: 15, D: 1}}, {eye(0, 1, 100), 2, 10, 1, api.Ratio{N: 20, D: 3}}, {eye(0, 1, 0), 0, 3000, 23, api.Ratio{N: 72000, D: 1}}, {eye(1, 1, 0), 23, 3000, 0, api.Ratio{N: 125, D: 1}}, {eye(0, 3, 0), 7, 0, 9, api.Ratio{N: 0, D: 1}}, {eye(0, 3, 0), 7, 8, 7, api.Ratio{N: 8, D: 1}}, {eye(0, 100, 2000), 23, 3000, 22, api.Ratio{N: 122000, D: 41}},
	} {
		if r, err := scene.Same(g, c.e, c.y, c.height, c.to); err != api.OK || r != c.want {
			t.Errorf("Same(%v) = %v, %d", c, r, err)
		}
	}
	scenes(22, 1000, api.MaxCells, func(d *dice, g api.Ground, e api.Eye) {
		y, height, to := d.throw(g.Deep), d.throw(maxPoint+1), d.throw(g.Deep)
		r, err := scene.Same(g, e, y, height, to)
		if err != api.OK || r.D < 1 || !isRatio(r, rat(r)) {
			t.Fatalf("Same(%v, %d, %d, %d) = %v, %d", e, y, height, to, r, err)
		}
		// What it is high looks as high as the other one.
		if there := new(big.Rat).Mul(rat(r), look(e, to, 1)); there.Cmp(look(e, y, height)) != 0 {
			t.Fatalf("Same(%v, %d, %d, %d) = %v, which looks %v high", e, y, height, to, r, there)
		}
	})
}

func TestP74GlassErrors(t *testing.T) {
	check := func(g api.Ground, e api.Eye, y, height, to int, want api.Errno) {
		t.Helper()
		if r, err := scene.Same(g, e, y, height, to); r != (api.Ratio{}) || err != want {
			t.Errorf("Same(%v, %d, %d, %d) = %v, %d; want %d", e, y, height, to, r, err, want)
		}
	}
	checkBoth := func(g api.Ground, e api.Eye, y, height int, want api.Errno) {
		t.Helper()
		if r, err := scene.Looks(g, e, y, height); r != (api.Ratio{}) || err != want {
			t.Errorf("Looks(%v, %d, %d) = %v, %d; want %d", e, y, height, r, err, want)
		}
		check(g, e, y, height, 0, want)
	}
	g, e := ridge()
	for _, n := range wrongUpTo(maxPoint) {
		checkBoth(g, e, 0, n, api.ErrRange)
	}
	for _, y := range wrongUpTo(g.Deep - 1) {
		checkBoth(g, e, y, 5, api.ErrRange)
		check(g, e, 0, 5, y, api.ErrRange)
		check(g, e, y, 5, y, api.ErrRange)
	}
	for _, y := range []int{0, 1, -1, 24} {
		for _, wrong := range wrongEyes(g) {
			checkBoth(g, wrong, y, 3001*y, api.ErrInvalid)
			check(g, wrong, 0, 5, y, api.ErrInvalid)
		}
		for _, wrong := range wrongGrounds() {
			checkBoth(wrong, e, y, 3001*y, api.ErrInvalid)
			check(wrong, e, 0, 5, y, api.ErrInvalid)
		}
	}
}
