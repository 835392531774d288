package bath_test

import (
	"math"
	"testing"

	"armature/api"
	"armature/bath"
)

// soaks are vats, written as bath, skin and what is gone, and what an hour makes of their salt and acid.
func soaks() []struct {
	v, want api.Vat
} {
	return []struct{ v, want api.Vat }{
		{vat(), api.Vat{Bath: api.Bath{Water: 900, Acid: 95}, Skin: api.Skin{Water: 100, Acid: 5, Open: 500}}},
		// 2.5 of the 5 grains that are missing, cut off.
		{api.Vat{Bath: api.Bath{Water: 900, Acid: 95}, Skin: api.Skin{Water: 100, Acid: 5, Open: 500}}, api.Vat{Bath: api.Bath{Water: 900, Acid: 93}, Skin: api.Skin{Water: 100, Acid: 7, Open: 500}}},
		// 22.5 of the 45 grains that are too many, cut off too.
		{api.Vat{Bath: api.Bath{Water: 900}, Skin: api.Skin{Water: 100, Acid: 50, Open: 500}}, api.Vat{Bath: api.Bath{Water: 900, Acid: 22}, Skin: api.Skin{Water: 100, Acid: 28, Open: 500}}},
		// Salt and acid go opposite ways, and what is gone stays gone.
		{api.Vat{Bath: api.Bath{Water: 10, Salt: 100}, Skin: api.Skin{Water: 10, Acid: 60, Open: 1000}, Gone: api.Bath{Water: 1, Salt: 2, Acid: 3}}, api.Vat{Bath: api.Bath{Water: 10, Salt: 50, Acid: 30}, Skin: api.Skin{Water: 10, Salt: 50, Acid: 30, Open: 1000}, Gone: api.Bath{Water: 1, Salt: 2, Acid: 3}}},
		// Without water in the bath the skin takes up all, without water in the skin the bath does, without any nothing moves.
		{api.Vat{Bath: api.Bath{Salt: 40, Acid: 8}, Skin: api.Skin{Water: 3, Salt: 2, Open: 250}}, api.Vat{Bath: api.Bath{Salt: 30, Acid: 6}, Skin: api.Skin{Water: 3, Salt: 12, Acid: 2, Open: 250}}},
		{api.Vat{Bath: api.Bath{Water: 3, Salt: 2}, Skin: api.Skin{Salt: 40, Acid: 8, Open: 1000}}, api.Vat{Bath: api.Bath{Water: 3, Salt: 42, Acid: 8}, Skin: api.Skin{Open: 1000}}},
		{api.Vat{Bath: api.Bath{Salt: 40, Acid: 8}, Skin: api.Skin{Salt: 2, Acid: 1, Open: 1000}}, api.Vat{Bath: api.Bath{Salt: 40, Acid: 8}, Skin: api.Skin{Salt: 2, Acid: 1, Open: 1000}}},
		// A closed skin.
		{api.Vat{Bath: api.Bath{Water: 1, Salt: 40, Acid: 8}, Skin: api.Skin{Water: 1}}, api.Vat{Bath: api.Bath{Water: 1, Salt: 40, Acid: 8}, Skin: api.Skin{Water: 1}}},
		// As much as there can be: the balance is cut off from 666666666.
		{api.Vat{Bath: api.Bath{Water: 333333333, Salt: top}, Skin: api.Skin{Water: 666666666, Acid: top, Open: 1000}}, api.Vat{Bath: api.Bath{Water: 333333333, Salt: 333333334, Acid: 333333334}, Skin: api.Skin{Water: 666666666, Salt: 666666666, Acid: 666666666, Open: 1000}}},
	}
}

func TestP33Hour(t *testing.T) {
	for _, c := range soaks() {
		if got, e := bath.Hour(c.v); e != api.OK || got != c.want {
			t.Errorf("Hour(%v) = %v, %d; want %v", c.v, got, e, c.want)
		}
	}
	d := dice(31)
	for range 20000 {
		v := d.vat()
		if got, e := bath.Hour(v); e != api.OK || got != hourOn(v) || !bath.ValidVat(got) {
			t.Fatalf("Hour(%v) = %v, %d; want %v", v, got, e, hourOn(v))
		}
	}
}

func TestP33Balance(t *testing.T) {
	for _, c := range []struct {
		v          api.Vat
		salt, acid int
	}{
		{vat(), 0, 10},
		{api.Vat{Bath: api.Bath{Water: 2, Salt: 10, Acid: 3}, Skin: api.Skin{Water: 1, Salt: 1, Acid: 5}, Gone: api.Bath{Water: 9, Salt: 9, Acid: 9}}, 3, 2},
		{api.Vat{Bath: api.Bath{Salt: 10, Acid: 3}, Skin: api.Skin{Salt: 1, Acid: 5}}, 1, 5},
		{api.Vat{Bath: api.Bath{Salt: 10, Acid: 3}, Skin: api.Skin{Water: 1, Salt: 1, Acid: 5}}, 11, 8},
		{api.Vat{Bath: api.Bath{Water: 1, Salt: 10, Acid: 3}, Skin: api.Skin{Salt: 1, Acid: 5}}, 0, 0},
		{api.Vat{Skin: api.Skin{Water: top, Salt: top, Acid: top}}, top, top},
		{api.Vat{Bath: api.Bath{Water: 1, Salt: top}, Skin: api.Skin{Water: top - 1, Acid: top - 1}}, top - 1, 999999998},
	} {
		if salt, acid, e := bath.Balance(c.v); e != api.OK || salt != c.salt || acid != c.acid {
			t.Errorf("Balance(%v) = %d, %d, %d; want %d, %d", c.v, salt, acid, e, c.salt, c.acid)
		}
	}
	d := dice(32)
	for range 20000 {
		v := d.vat()
		salt, acid, e := bath.Balance(v)
		if e != api.OK || salt != balance(v, v.Bath.Salt, v.Skin.Salt) || acid != balance(v, v.Bath.Acid, v.Skin.Acid) {
			t.Fatalf("Balance(%v) = %d, %d, %d", v, salt, acid, e)
		}
	}
}

// nearer reports whether what was is on its way to its balance, or stays.
func nearer(was, is, balance int) bool {
	return was <= is && is <= balance || balance <= is && is <= was
}

func TestP33TowardsBalance(t *testing.T) {
	d := dice(33)
	for range 20000 {
		v := d.vat()
		salt, acid, _ := bath.Balance(v)
		w, e := bath.Hour(v)
		if e != api.OK || !nearer(v.Skin.Salt, w.Skin.Salt, salt) || !nearer(v.Skin.Acid, w.Skin.Acid, acid) {
			t.Fatalf("Hour(%v) = %v, with the balances %d and %d", v, w, salt, acid)
		}
		if v.Skin.Open == 1000 && (w.Skin.Salt != salt || w.Skin.Acid != acid) {
			t.Fatalf("an hour of an open skin: %v became %v, with the balances %d and %d", v, w, salt, acid)
		}
	}
}

func TestP33Steady(t *testing.T) {
	at := func(salt, acid int) api.Vat {
		return api.Vat{Bath: api.Bath{Water: 90, Salt: 100 - salt, Acid: 100 - acid}, Skin: api.Skin{Water: 10, Salt: salt, Acid: acid, Open: 500}}
	}
	closed, dry := vat(), vat()
	closed.Skin.Open = 0
	dry.Bath.Water, dry.Skin.Water = 0, 0
	for _, c := range []struct {
		v    api.Vat
		want bool
	}{
		{api.Vat{}, true}, {closed, true}, {dry, true}, {vat(), false},
		// The balance is 10; half a grain less or more is none.
		{at(10, 10), true}, {at(9, 10), true}, {at(10, 11), true}, {at(8, 10), false}, {at(12, 10), false}, {at(10, 8), false}, {at(10, 12), false}, {at(0, 0), false},
	} {
		if got, e := bath.Steady(c.v); e != api.OK || got != c.want {
			t.Errorf("Steady(%v) = %t, %d", c.v, got, e)
		}
	}
}

func TestP33SteadyStays(t *testing.T) {
	d := dice(34)
	steady := 0
	for range 5000 {
		v := d.vat()
		v = mustRun(v, step(api.SWait, d.throw(40)))
		got, e := bath.Steady(v)
		if e != api.OK || got != (hourOn(v) == v) {
			t.Fatalf("Steady(%v) = %t, %d", v, got, e)
		}
		if got {
			steady++
			if w := mustRun(v, step(api.SWait, 500)); w != v {
				t.Fatalf("%v is steady, but became %v", v, w)
			}
		}
	}
	if steady < 100 || steady > 4900 {
		t.Errorf("%d of 5000 vats were steady", steady)
	}
}

func TestP33Until(t *testing.T) {
	for _, c := range []struct {
		acid, most, want int
		e                api.Errno
	}{
		{0, 0, 0, api.OK}, {0, 10000, 0, api.OK}, {1, 0, 0, api.ErrNone}, {1, 1, 1, api.OK}, {5, 1, 1, api.OK}, {6, 1, 0, api.ErrNone}, {6, 10000, 2, api.OK}, {7, 2, 2, api.OK}, {8, 2, 0, api.ErrNone}, {8, 3, 3, api.OK}, {9, 10, 4, api.OK},
		// The last grain never goes over.
		{10, 10000, 0, api.ErrNone}, {top, 10000, 0, api.ErrNone},
	} {
		if got, e := bath.Until(vat(), c.acid, c.most); e != c.e || got != c.want {
			t.Errorf("Until(%d, %d) = %d, %d", c.acid, c.most, got, e)
		}
	}
}

func TestP33Below(t *testing.T) {
	v := vat()
	v.Bath.Acid, v.Skin.Acid = 0, 50 // then 28, 17, 11, 8, 7, 6
	for _, c := range []struct {
		acid, most, want int
		e                api.Errno
	}{
		{50, 0, 0, api.OK}, {top, 10000, 0, api.OK}, {49, 0, 0, api.ErrNone}, {49, 1, 1, api.OK}, {28, 1, 1, api.OK}, {27, 1, 0, api.ErrNone}, {27, 2, 2, api.OK}, {17, 2, 2, api.OK}, {11, 10000, 3, api.OK}, {8, 4, 4, api.OK}, {7, 10000, 5, api.OK}, {6, 6, 6, api.OK}, {6, 5, 0, api.ErrNone},
		// The balance is 5, but the last grain stays.
		{5, 10000, 0, api.ErrNone}, {0, 10000, 0, api.ErrNone},
	} {
		if got, e := bath.Below(v, c.acid, c.most); e != c.e || got != c.want {
			t.Errorf("Below(%d, %d) = %d, %d", c.acid, c.most, got, e)
		}
	}
}

// firstOf asks hour by hour anew.
func firstOf(v api.Vat, most int, asked func(acid int) bool) (int, api.Errno) {
	for h := range most + 1 {
		if asked(v.Skin.Acid) {
			return h, api.OK
		}
		v = hourOn(v)
	}
	return 0, api.ErrNone
}

func TestP33UntilAndBelowHourByHour(t *testing.T) {
	d := dice(35)
	for range 3000 {
		v, most := d.vat(), d.throw(30)
		acid := d.throw(v.Bath.Acid + v.Skin.Acid + 2)
		want, wantE := firstOf(v, most, func(has int) bool { return has >= acid })
		if got, e := bath.Until(v, acid, most); got != want || e != wantE {
			t.Fatalf("Until(%v, %d, %d) = %d, %d; want %d, %d", v, acid, most, got, e, want, wantE)
		}
		want, wantE = firstOf(v, most, func(has int) bool { return has <= acid })
		if got, e := bath.Below(v, acid, most); got != want || e != wantE {
			t.Fatalf("Below(%v, %d, %d) = %d, %d; want %d, %d", v, acid, most, got, e, want, wantE)
		}
	}
}

// TestP33LastHour has skins that still change after as many hours as may be asked for.
func TestP33LastHour(t *testing.T) {
	fresh := api.Vat{Bath: api.Bath{Water: top / 2, Acid: top}, Skin: api.Skin{Water: top / 2, Open: 1}}
	soaked := api.Vat{Bath: api.Bath{Water: top / 2}, Skin: api.Skin{Water: top / 2, Acid: top, Open: 1}}
	last := func(v api.Vat) int {
		for range 10000 {
			v = hourOn(v)
		}
		return v.Skin.Acid
	}
	for _, c := range []struct {
		ask        func(v api.Vat, acid, most int) (int, api.Errno)
		v          api.Vat
		acid, more int
	}{{bath.Until, fresh, last(fresh), 1}, {bath.Below, soaked, last(soaked), -1}} {
		if h, e := c.ask(c.v, c.acid, 10000); h != 10000 || e != api.OK {
			t.Errorf("of %v: %d, %d", c.v, h, e)
		}
		if h, e := c.ask(c.v, c.acid, 9999); h != 0 || e != api.ErrNone {
			t.Errorf("of %v within 9999 hours: %d, %d", c.v, h, e)
		}
		if h, e := c.ask(c.v, c.acid+c.more, 10000); h != 0 || e != api.ErrNone {
			t.Errorf("of %v with a grain more: %d, %d", c.v, h, e)
		}
	}
}

func TestP31UntilAndBelowErrors(t *testing.T) {
	for _, ask := range []func(v api.Vat, acid, most int) (int, api.Errno){bath.Until, bath.Below} {
		for _, acid := range []int{math.MinInt, -1, 0, 5, top, top + 1, math.MaxInt} {
			for _, most := range []int{math.MinInt, -1, 0, 10000, 10001, math.MaxInt} {
				h, e := ask(vat(), acid, most)
				wrong := acid < 0 || acid > top || most < 0 || most > 10000
				if wrong != (e == api.ErrRange) || wrong && h != 0 {
					t.Errorf("of %d and %d: %d, %d", acid, most, h, e)
				}
				for _, v := range wrongVats() {
					if h, e := ask(v, acid, most); h != 0 || e != api.ErrInvalid {
						t.Errorf("of %v, %d and %d: %d, %d", v, acid, most, h, e)
					}
				}
			}
		}
	}
}

func TestP31WrongVats(t *testing.T) {
	for _, v := range wrongVats() {
		if w, e := bath.Hour(v); w != (api.Vat{}) || e != api.ErrInvalid {
			t.Errorf("Hour(%v) = %v, %d", v, w, e)
		}
		if b, e := bath.Total(v); b != (api.Bath{}) || e != api.ErrInvalid {
			t.Errorf("Total(%v) = %v, %d", v, b, e)
		}
		if salt, acid, e := bath.Balance(v); salt != 0 || acid != 0 || e != api.ErrInvalid {
			t.Errorf("Balance(%v) = %d, %d, %d", v, salt, acid, e)
		}
		if ok, e := bath.Steady(v); ok || e != api.ErrInvalid {
			t.Errorf("Steady(%v) = %t, %d", v, ok, e)
		}
		for _, s := range append(wrongSteps(), step(api.SWait, 1), step(api.SAcid, top)) {
			if w, e := bath.Do(v, s); w != (api.Vat{}) || e != api.ErrInvalid {
				t.Errorf("Do(%v, %v) = %v, %d", v, s, w, e)
			}
			if w, n, e := bath.Run(v, []api.Step{s}); w != (api.Vat{}) || n != 0 || e != api.ErrInvalid {
				t.Errorf("Run(%v, %v) = %v, %d, %d", v, s, w, n, e)
			}
		}
		if w, n, e := bath.Run(v, nil); w != (api.Vat{}) || n != 0 || e != api.ErrInvalid {
			t.Errorf("Run(%v) of no steps = %v, %d, %d", v, w, n, e)
		}
	}
}
