package bath_test

import (
	"math"
	"math/big"
	"testing"

	"armature/api"
	"armature/bath"
)

func TestP35Strength(t *testing.T) {
	for _, c := range []struct {
		b    api.Bath
		want api.Ratio
	}{
		{api.Bath{Water: 100, Acid: 20}, api.Ratio{N: 1, D: 5}}, {api.Bath{Water: 20, Salt: 7, Acid: 100}, api.Ratio{N: 5, D: 1}},
		{api.Bath{Water: 7}, api.Ratio{D: 1}}, {api.Bath{Water: top, Salt: top}, api.Ratio{D: 1}}, {api.Bath{Water: 1}, api.Ratio{D: 1}},
		{api.Bath{Water: top, Acid: top}, api.Ratio{N: 1, D: 1}}, {api.Bath{Water: 1, Acid: top}, api.Ratio{N: top, D: 1}}, {api.Bath{Water: top, Acid: 1}, api.Ratio{N: 1, D: top}},
		{api.Bath{Water: top, Acid: top - 1}, api.Ratio{N: top - 1, D: top}}, {api.Bath{Water: 84, Acid: 36}, api.Ratio{N: 3, D: 7}}, {api.Bath{Water: 36, Acid: 84}, api.Ratio{N: 7, D: 3}},
	} {
		if got, e := bath.Strength(c.b); got != c.want || e != api.OK {
			t.Errorf("Strength(%v) = %v, %d; want %v", c.b, got, e, c.want)
		}
	}
	for _, b := range []api.Bath{{}, {Acid: 1}, {Salt: 5, Acid: top}} {
		if got, e := bath.Strength(b); got != (api.Ratio{}) || e != api.ErrNone {
			t.Errorf("Strength(%v) = %v, %d", b, got, e)
		}
	}
}

// rat is a bath's strength, for one with water.
func rat(b api.Bath) *big.Rat { return big.NewRat(int64(b.Acid), int64(b.Water)) }

func (d *dice) wet() api.Bath {
	b := d.bath(d.size())
	b.Water++
	return b
}

func TestP35StrengthAndStronger(t *testing.T) {
	d := dice(41)
	for range 20000 {
		a, b := d.wet(), d.wet()
		got, e := bath.Strength(a)
		if want := rat(a); e != api.OK || int64(got.N) != want.Num().Int64() || int64(got.D) != want.Denom().Int64() {
			t.Fatalf("Strength(%v) = %v, %d", a, got, e)
		}
		if order, e := bath.Stronger(a, b); e != api.OK || order != rat(a).Cmp(rat(b)) {
			t.Fatalf("Stronger(%v, %v) = %d, %d", a, b, order, e)
		}
	}
}

func TestP35Stronger(t *testing.T) {
	for _, c := range []struct {
		a, b api.Bath
		want int
	}{
		{api.Bath{Water: 100, Acid: 20}, api.Bath{Water: 50, Acid: 11}, -1}, {api.Bath{Water: 100, Acid: 20}, api.Bath{Water: 5, Salt: 9, Acid: 1}, 0},
		{api.Bath{Water: 1}, api.Bath{Water: top}, 0}, {api.Bath{Water: 1}, api.Bath{Water: top, Acid: 1}, -1}, {api.Bath{Water: 1, Acid: top}, api.Bath{Water: top, Acid: 1}, 1},
		// These lie so near together that only whole numbers tell.
		{api.Bath{Water: top, Acid: top - 1}, api.Bath{Water: top - 1, Acid: top - 2}, 1}, {api.Bath{Water: top - 1, Acid: top}, api.Bath{Water: top - 2, Acid: top - 1}, -1},
		{api.Bath{Water: top, Acid: top}, api.Bath{Water: top - 1, Acid: top - 1}, 0},
	} {
		back, e2 := bath.Stronger(c.b, c.a)
		if got, e := bath.Stronger(c.a, c.b); got != c.want || back != -c.want || e != api.OK || e2 != api.OK {
			t.Errorf("Stronger(%v, %v) = %d, %d, and back %d, %d", c.a, c.b, got, e, back, e2)
		}
	}
	wet := api.Bath{Water: 100, Acid: 20}
	for _, dry := range []api.Bath{{}, {Acid: 11}, {Salt: top}} {
		for _, c := range [][2]api.Bath{{wet, dry}, {dry, wet}, {dry, dry}} {
			if got, e := bath.Stronger(c[0], c[1]); got != 0 || e != api.ErrNone {
				t.Errorf("Stronger(%v) = %d, %d", c, got, e)
			}
		}
	}
}

func TestP35Water(t *testing.T) {
	for _, c := range []struct {
		b          api.Bath
		n, d, want int
		e          api.Errno
	}{
		{api.Bath{Water: 100, Acid: 20}, 1, 10, 100, api.OK}, {api.Bath{Water: 100, Acid: 20}, 3, 40, 167, api.OK}, {api.Bath{Water: 100, Salt: 900, Acid: 20}, 2, 20, 100, api.OK},
		// Weak enough, just so, and a little too strong.
		{api.Bath{Water: 100, Acid: 20}, 1, 3, 0, api.OK}, {api.Bath{Water: 100, Acid: 20}, 1, 5, 0, api.OK}, {api.Bath{Water: 99, Acid: 20}, 1, 5, 1, api.OK}, {api.Bath{Water: 100, Acid: 20}, 199999, 1000000, 1, api.OK},
		{api.Bath{}, 0, 1, 1, api.OK}, {api.Bath{Salt: top}, 5, 1, 1, api.OK}, {api.Bath{}, 1000000, 1000000, 1, api.OK}, {api.Bath{Water: 1}, 0, 1, 0, api.OK}, {api.Bath{Water: top}, 0, 1000000, 0, api.OK},
		{api.Bath{Acid: 1}, 1000000, 1, 1, api.OK}, {api.Bath{Acid: 7}, 2, 1, 4, api.OK}, {api.Bath{Acid: 8}, 2, 1, 4, api.OK},
		{api.Bath{Water: 100, Acid: 20}, 0, 1, 0, api.ErrNone}, {api.Bath{Water: top, Acid: 1}, 0, 1000000, 0, api.ErrNone}, {api.Bath{Acid: 1}, 0, 1, 0, api.ErrNone},
		// As much water as a bath can have, and more.
		{api.Bath{Acid: 1000}, 1, 1000000, top, api.OK}, {api.Bath{Acid: 1001}, 1, 1000000, 0, api.ErrNone}, {api.Bath{Water: 5, Acid: 1000}, 1, 1000000, top - 5, api.OK}, {api.Bath{Water: top - 1, Acid: 1001}, 1, 1000000, 0, api.ErrNone}, {api.Bath{Water: top, Acid: 1001}, 1, 1000000, 0, api.ErrNone}, {api.Bath{Water: top, Acid: 1000}, 1, 1000000, 0, api.OK},
		{api.Bath{Acid: top}, 1, 1, top, api.OK}, {api.Bath{Salt: top, Acid: top}, 1000000, 1000000, top, api.OK}, {api.Bath{Acid: top}, 999999, 1000000, 0, api.ErrNone}, {api.Bath{Water: top, Acid: top}, 1, 1000000, 0, api.ErrNone}, {api.Bath{Water: top, Acid: top}, 1000000, 1, 0, api.OK},
	} {
		if got, e := bath.Water(c.b, c.n, c.d); got != c.want || e != c.e {
			t.Errorf("Water(%v, %d, %d) = %d, %d; want %d, %d", c.b, c.n, c.d, got, e, c.want, c.e)
		}
	}
}

// weak reports whether a bath's strength is at most n / d; without water there is none.
func weak(b api.Bath, n, d int) bool {
	return b.Water > 0 && rat(b).Cmp(big.NewRat(int64(n), int64(d))) <= 0
}

func TestP35WaterIsEnough(t *testing.T) {
	d := dice(42)
	ends := map[api.Errno]int{}
	for range 20000 {
		b, n, by := d.bath(d.size()), d.grains([]int{5, 1000000}[d.throw(2)]), 1+d.throw([]int{5, 1000000}[d.throw(2)])
		w, e := bath.Water(b, n, by)
		ends[e]++
		more, less, most := b, b, b
		more.Water += w
		less.Water = more.Water - 1
		most.Water = top
		switch e {
		case api.OK:
			if w < 0 || more.Water > top || !weak(more, n, by) || w > 0 && weak(less, n, by) {
				t.Fatalf("Water(%v, %d, %d) = %d", b, n, by, w)
			}
		case api.ErrNone:
			if w != 0 || weak(most, n, by) {
				t.Fatalf("Water(%v, %d, %d) = %d, %d", b, n, by, w, e)
			}
		default:
			t.Fatalf("Water(%v, %d, %d) = %d, %d", b, n, by, w, e)
		}
	}
	if ends[api.OK] < 1000 || ends[api.ErrNone] < 1000 {
		t.Errorf("the calls ended with %v", ends)
	}
}

func TestP31WaterErrors(t *testing.T) {
	for _, b := range []api.Bath{{}, {Water: 100, Acid: 20}, {Acid: top}} {
		for _, n := range []int{math.MinInt, -1, 0, 1, 1000000, 1000001, math.MaxInt} {
			for _, d := range []int{math.MinInt, -1, 0, 1, 1000000, 1000001, math.MaxInt} {
				w, e := bath.Water(b, n, d)
				wrong := n < 0 || n > 1000000 || d < 1 || d > 1000000
				if wrong != (e == api.ErrRange) || e != api.OK && w != 0 {
					t.Errorf("Water(%v, %d, %d) = %d, %d", b, n, d, w, e)
				}
				for _, b := range wrongBaths() {
					if w, e := bath.Water(b, n, d); w != 0 || e != api.ErrInvalid {
						t.Errorf("Water(%v, %d, %d) = %d, %d", b, n, d, w, e)
					}
				}
			}
		}
	}
}

func TestP35Mixed(t *testing.T) {
	for _, c := range []struct {
		a, b, want api.Bath
		e          api.Errno
	}{
		{api.Bath{}, api.Bath{}, api.Bath{}, api.OK},
		{api.Bath{Water: 1, Salt: 20, Acid: 300}, api.Bath{Water: 4000, Salt: 50000, Acid: 600000}, api.Bath{Water: 4001, Salt: 50020, Acid: 600300}, api.OK},
		{api.Bath{Water: top, Salt: 1, Acid: top - 1}, api.Bath{Salt: top - 1, Acid: 1}, api.Bath{Water: top, Salt: top, Acid: top}, api.OK},
		{api.Bath{Water: top}, api.Bath{Water: 1}, api.Bath{}, api.ErrLimit}, {api.Bath{Salt: top}, api.Bath{Salt: 1}, api.Bath{}, api.ErrLimit}, {api.Bath{Acid: top}, api.Bath{Acid: 1}, api.Bath{}, api.ErrLimit},
		{api.Bath{Water: 5, Salt: 5, Acid: top / 2}, api.Bath{Water: 5, Salt: 5, Acid: top/2 + 1}, api.Bath{}, api.ErrLimit},
		{api.Bath{Water: top, Salt: top, Acid: top}, api.Bath{Water: top, Salt: top, Acid: top}, api.Bath{}, api.ErrLimit},
	} {
		back, e2 := bath.Mixed(c.b, c.a)
		if got, e := bath.Mixed(c.a, c.b); got != c.want || back != c.want || e != c.e || e2 != c.e {
			t.Errorf("Mixed(%v, %v) = %v, %d, and back %v, %d", c.a, c.b, got, e, back, e2)
		}
	}
}

func TestP35MixedLiesBetween(t *testing.T) {
	d := dice(43)
	for range 20000 {
		a, b := d.wet(), d.wet()
		if order, _ := bath.Stronger(a, b); order > 0 {
			a, b = b, a
		}
		m, e := bath.Mixed(a, b)
		if e != api.OK {
			t.Fatalf("Mixed(%v, %v) = %v, %d", a, b, m, e)
		}
		low, e := bath.Stronger(a, m)
		high, e2 := bath.Stronger(m, b)
		if low > 0 || high > 0 || e != api.OK || e2 != api.OK {
			t.Fatalf("Mixed(%v, %v) = %v", a, b, m)
		}
	}
}

func TestP35Split(t *testing.T) {
	b := api.Bath{Water: 101, Salt: 3, Acid: 20}
	full := api.Bath{Water: top, Salt: top - 1, Acid: top}
	for _, c := range []struct {
		b         api.Bath
		part      int
		one, rest api.Bath
	}{
		{b, 500, api.Bath{Water: 50, Salt: 1, Acid: 10}, api.Bath{Water: 51, Salt: 2, Acid: 10}},
		{b, 0, api.Bath{}, b}, {b, 1000, b, api.Bath{}}, {b, 9, api.Bath{}, b}, {b, 10, api.Bath{Water: 1}, api.Bath{Water: 100, Salt: 3, Acid: 20}},
		{b, 999, api.Bath{Water: 100, Salt: 2, Acid: 19}, api.Bath{Water: 1, Salt: 1, Acid: 1}},
		{full, 1, api.Bath{Water: 1000000, Salt: 999999, Acid: 1000000}, api.Bath{Water: 999000000, Salt: 999000000, Acid: 999000000}}, {full, 1000, full, api.Bath{}},
		{api.Bath{}, 500, api.Bath{}, api.Bath{}},
	} {
		if one, rest, e := bath.Split(c.b, c.part); one != c.one || rest != c.rest || e != api.OK {
			t.Errorf("Split(%v, %d) = %v, %v, %d", c.b, c.part, one, rest, e)
		}
	}
	for _, n := range []int{math.MinInt, -1, 1001, math.MaxInt} {
		if one, rest, e := bath.Split(b, n); one != (api.Bath{}) || rest != (api.Bath{}) || e != api.ErrRange {
			t.Errorf("Split(%d) = %v, %v, %d", n, one, rest, e)
		}
	}
}

func TestP35SplitIsMixedAgain(t *testing.T) {
	d := dice(44)
	for range 20000 {
		b, n := d.bath(3*d.size()), d.throw(1001)
		one, rest, e := bath.Split(b, n)
		if e != api.OK || one != (api.Bath{Water: part(b.Water, n, 1000), Salt: part(b.Salt, n, 1000), Acid: part(b.Acid, n, 1000)}) {
			t.Fatalf("Split(%v, %d) = %v, %v, %d", b, n, one, rest, e)
		}
		if m, e := bath.Mixed(one, rest); m != b || e != api.OK {
			t.Fatalf("Split(%v, %d) = %v, %v, mixed %v, %d", b, n, one, rest, m, e)
		}
	}
}

func TestP31WrongBaths(t *testing.T) {
	dry, wet, full := api.Bath{}, api.Bath{Water: 5, Acid: 1}, api.Bath{Water: top, Salt: top, Acid: top}
	for _, b := range wrongBaths() {
		if r, e := bath.Strength(b); r != (api.Ratio{}) || e != api.ErrInvalid {
			t.Errorf("Strength(%v) = %v, %d", b, r, e)
		}
		for _, n := range []int{math.MinInt, -1, 0, 500, 1000, 1001, math.MaxInt} {
			if one, rest, e := bath.Split(b, n); one != (api.Bath{}) || rest != (api.Bath{}) || e != api.ErrInvalid {
				t.Errorf("Split(%v, %d) = %v, %v, %d", b, n, one, rest, e)
			}
		}
		for _, c := range [][2]api.Bath{{b, dry}, {dry, b}, {b, wet}, {wet, b}, {b, full}, {full, b}, {b, b}} {
			if n, e := bath.Stronger(c[0], c[1]); n != 0 || e != api.ErrInvalid {
				t.Errorf("Stronger(%v) = %d, %d", c, n, e)
			}
			if m, e := bath.Mixed(c[0], c[1]); m != (api.Bath{}) || e != api.ErrInvalid {
				t.Errorf("Mixed(%v) = %v, %d", c, m, e)
			}
		}
	}
}
