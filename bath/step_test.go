package bath_test

import (
	"slices"
	"testing"

	"armature/api"
	"armature/bath"
)

// stained is a vat with something of everything.
func stained() api.Vat {
	return api.Vat{Bath: api.Bath{Water: 1001, Salt: 33, Acid: 99}, Skin: api.Skin{Water: 10, Salt: 20, Acid: 30, Open: 100}, Gone: api.Bath{Water: 1, Salt: 2, Acid: 3}}
}

func TestP32Do(t *testing.T) {
	skin := stained().Skin
	gone := stained().Gone
	for _, c := range []struct {
		s    api.Step
		want api.Vat
	}{
		{step(api.SWater, 7), api.Vat{Bath: api.Bath{Water: 1008, Salt: 33, Acid: 99}, Skin: skin, Gone: gone}},
		{step(api.SSalt, 7), api.Vat{Bath: api.Bath{Water: 1001, Salt: 40, Acid: 99}, Skin: skin, Gone: gone}},
		{step(api.SAcid, 7), api.Vat{Bath: api.Bath{Water: 1001, Salt: 33, Acid: 106}, Skin: skin, Gone: gone}},
		{step(api.SLime, 7), api.Vat{Bath: api.Bath{Water: 1001, Salt: 33, Acid: 92}, Skin: skin, Gone: api.Bath{Water: 1, Salt: 2, Acid: 10}}},
		{step(api.SLime, 99), api.Vat{Bath: api.Bath{Water: 1001, Salt: 33}, Skin: skin, Gone: api.Bath{Water: 1, Salt: 2, Acid: 102}}},
		{step(api.SLime, 100), api.Vat{Bath: api.Bath{Water: 1001, Salt: 33}, Skin: skin, Gone: api.Bath{Water: 1, Salt: 2, Acid: 102}}},
		{step(api.SLime, top), api.Vat{Bath: api.Bath{Water: 1001, Salt: 33}, Skin: skin, Gone: api.Bath{Water: 1, Salt: 2, Acid: 102}}},
		{step(api.SPour, 1000), api.Vat{Skin: skin, Gone: api.Bath{Water: 1002, Salt: 35, Acid: 102}}},
		// 500.5, 16.5 and 49.5 grains go, each rounded down.
		{step(api.SPour, 500), api.Vat{Bath: api.Bath{Water: 501, Salt: 17, Acid: 50}, Skin: skin, Gone: api.Bath{Water: 501, Salt: 18, Acid: 52}}},
		{step(api.SPour, 1), api.Vat{Bath: api.Bath{Water: 1000, Salt: 33, Acid: 99}, Skin: skin, Gone: api.Bath{Water: 2, Salt: 2, Acid: 3}}},
		{step(api.SPour, 999), api.Vat{Bath: api.Bath{Water: 2, Salt: 1, Acid: 1}, Skin: skin, Gone: api.Bath{Water: 1000, Salt: 34, Acid: 101}}},
		// The balances are 0 and 1: two grains of each, 2.0 and 2.9, cut off.
		{step(api.SWait, 1), api.Vat{Bath: api.Bath{Water: 1001, Salt: 35, Acid: 101}, Skin: api.Skin{Water: 10, Salt: 18, Acid: 28, Open: 100}, Gone: gone}},
		{step(api.SWait, 2), api.Vat{Bath: api.Bath{Water: 1001, Salt: 36, Acid: 103}, Skin: api.Skin{Water: 10, Salt: 17, Acid: 26, Open: 100}, Gone: gone}},
	} {
		if got, e := bath.Do(stained(), c.s); e != api.OK || got != c.want {
			t.Errorf("Do(%v) = %v, %d; want %v", c.s, got, e, c.want)
		}
	}
	for kind := 1; kind <= 6; kind++ {
		if got, e := bath.Do(stained(), step(kind, 0)); e != api.OK || got != stained() {
			t.Errorf("Do of 0 of the kind %d = %v, %d", kind, got, e)
		}
	}
}

func TestP32DoAsSaid(t *testing.T) {
	d := dice(36)
	refused := 0
	for range 20000 {
		v := d.vat()
		for _, s := range d.steps(3, []int{10, 1000, top / 2, top}[d.throw(4)]) {
			want, no := stepOn(v, s)
			wantE := api.OK
			if no {
				want, wantE = api.Vat{}, api.ErrLimit
				refused++
			}
			if got, e := bath.Do(v, s); got != want || e != wantE {
				t.Fatalf("Do(%v, %v) = %v, %d; want %v, %d", v, s, got, e, want, wantE)
			}
		}
	}
	if refused < 100 {
		t.Errorf("%d steps were refused", refused)
	}
}

func TestP32DoLimit(t *testing.T) {
	v := api.Vat{Bath: api.Bath{Water: 300, Salt: 20, Acid: 1}, Skin: api.Skin{Water: 20, Salt: 1, Acid: 300}, Gone: api.Bath{Water: 1, Salt: 300, Acid: 20}}
	for _, kind := range []int{api.SWater, api.SSalt, api.SAcid} {
		if w, e := bath.Do(v, step(kind, top-321)); e != api.OK || !bath.ValidVat(w) {
			t.Errorf("Do of the kind %d up to the limit = %v, %d", kind, w, e)
		}
		for _, n := range []int{top - 320, top - 300, top} {
			if w, e := bath.Do(v, step(kind, n)); e != api.ErrLimit || w != (api.Vat{}) {
				t.Errorf("Do of %d of the kind %d = %v, %d", n, kind, w, e)
			}
		}
	}
}

func TestP32NeverLimit(t *testing.T) {
	full := api.Bath{Water: top, Salt: top, Acid: top}
	vats := []api.Vat{{Bath: full}, {Gone: full}, {Skin: api.Skin{Water: top, Salt: top, Acid: top, Open: 1000}}}
	vats = append(vats, api.Vat{Bath: api.Bath{Water: 1, Salt: top - 5, Acid: top / 2}, Skin: api.Skin{Water: top - 1, Salt: 5, Acid: top / 2, Open: 1000}})
	for _, v := range vats {
		for _, s := range []api.Step{step(api.SWait, 1000), step(api.SLime, 0), step(api.SLime, 7), step(api.SLime, top), step(api.SPour, 1), step(api.SPour, 333), step(api.SPour, 1000)} {
			if w, e := bath.Do(v, s); e != api.OK || !bath.ValidVat(w) {
				t.Errorf("Do(%v, %v) = %v, %d", v, s, w, e)
			}
		}
	}
}

func TestP31WrongSteps(t *testing.T) {
	for _, s := range wrongSteps() {
		if w, e := bath.Do(vat(), s); w != (api.Vat{}) || e != api.ErrInvalid {
			t.Errorf("Do(%v) = %v, %d", s, w, e)
		}
	}
	tooMuch := api.Vat{Bath: api.Bath{Salt: top}}
	for _, l := range wrongLists() {
		if b, e := bath.Put(l); b != (api.Bath{}) || e != api.ErrInvalid {
			t.Errorf("Put(%v) = %v, %d", l, b, e)
		}
		if n, e := bath.Hours(l); n != 0 || e != api.ErrInvalid {
			t.Errorf("Hours(%v) = %d, %d", l, n, e)
		}
		if w, n, e := bath.Run(vat(), l); w != (api.Vat{}) || n != 0 || e != api.ErrInvalid {
			t.Errorf("Run(%v) = %v, %d, %d", l, w, n, e)
		}
		// Of two errors the first one of the section is returned, also if a step before is refused.
		if w, n, e := bath.Run(tooMuch, append([]api.Step{step(api.SSalt, 1)}, l...)); w != (api.Vat{}) || n != 0 || e != api.ErrInvalid {
			t.Errorf("Run(%v) = %v, %d, %d", l, w, n, e)
		}
	}
}

func TestP32Run(t *testing.T) {
	l := []api.Step{step(api.SWait, 2), step(api.SLime, 90), step(api.SPour, 500), step(api.SWater, 50), step(api.SSalt, 7)}
	want := api.Vat{Bath: api.Bath{Water: 500, Salt: 7, Acid: 2}, Skin: api.Skin{Water: 100, Acid: 7, Open: 500}, Gone: api.Bath{Water: 450, Acid: 91}}
	if v, n, e := bath.Run(vat(), l); v != want || n != 5 || e != api.OK {
		t.Errorf("Run = %v, %d, %d", v, n, e)
	}
	for _, none := range [][]api.Step{nil, {}} {
		if v, n, e := bath.Run(stained(), none); v != stained() || n != 0 || e != api.OK {
			t.Errorf("Run of no steps = %v, %d, %d", v, n, e)
		}
	}
	most := slices.Repeat([]api.Step{step(api.SWait, 1000)}, api.MaxSteps)
	if v, n, e := bath.Run(vat(), most); n != api.MaxSteps || e != api.OK || v.Skin.Acid != 9 || v.Bath.Acid != 91 {
		t.Errorf("Run of the longest wait = %v, %d, %d", v, n, e)
	}
}

func TestP32RunRefused(t *testing.T) {
	salt := step(api.SSalt, top)
	for _, c := range []struct {
		l    []api.Step
		want int
	}{
		{[]api.Step{salt, step(api.SSalt, 1)}, 1},
		{[]api.Step{step(api.SWait, 1), step(api.SWater, 1), salt, step(api.SPour, 1000), step(api.SSalt, 1), step(api.SWait, 1)}, 4},
		{[]api.Step{step(api.SAcid, top), salt}, 0},
		{[]api.Step{step(api.SLime, 1000), step(api.SAcid, top-100), step(api.SAcid, 1)}, 2},
		{append(slices.Repeat([]api.Step{step(api.SWait, 0)}, 199), step(api.SWater, top)), 199},
	} {
		if v, n, e := bath.Run(vat(), c.l); v != (api.Vat{}) || n != c.want || e != api.ErrLimit {
			t.Errorf("Run(%v) = %v, %d, %d; want %d", c.l, v, n, e, c.want)
		}
	}
}

// cases throws vats with steps, of which some are refused.
func cases(seed dice, times int, use func(v api.Vat, l, more []api.Step)) {
	for range times {
		v, most := seed.vat(), []int{seed.size(), top}[seed.throw(2)]
		use(v, seed.steps(8, most), seed.steps(8, most))
	}
}

func TestP32NothingLost(t *testing.T) {
	ran := 0
	cases(37, 5000, func(v api.Vat, l, _ []api.Step) {
		before, e := bath.Total(v)
		if e != api.OK || before != totalOf(v) {
			t.Fatalf("Total(%v) = %v, %d", v, before, e)
		}
		w, n, e := bath.Run(v, l)
		if e != api.OK {
			return
		}
		ran++
		put, e := bath.Put(l)
		if e != api.OK || n != len(l) {
			t.Fatalf("Put(%v) = %v, %d", l, put, e)
		}
		after, e := bath.Total(w)
		if e != api.OK || after.Water != before.Water+put.Water || after.Salt != before.Salt+put.Salt || after.Acid != before.Acid+put.Acid {
			t.Fatalf("%v was in %v, %v were put: %v is in %v", before, v, put, after, w)
		}
		if min(w.Bath.Water, w.Bath.Salt, w.Bath.Acid, w.Skin.Salt, w.Skin.Acid, w.Gone.Water, w.Gone.Salt, w.Gone.Acid) < 0 || w.Skin.Water != v.Skin.Water || w.Skin.Open != v.Skin.Open {
			t.Fatalf("%v became %v", v, w)
		}
	})
	if ran < 1000 {
		t.Errorf("%d of 5000 cases ran", ran)
	}
}

func TestP32Total(t *testing.T) {
	v := api.Vat{Bath: api.Bath{Water: 1, Salt: 20, Acid: 300}, Skin: api.Skin{Water: 4000, Salt: 50000, Acid: 600000, Open: 7}, Gone: api.Bath{Water: 7000000, Salt: 80000000, Acid: 900000000}}
	if b, e := bath.Total(v); b != (api.Bath{Water: 7004001, Salt: 80050020, Acid: 900600300}) || e != api.OK {
		t.Errorf("Total = %v, %d", b, e)
	}
	if b, e := bath.Total(api.Vat{}); b != (api.Bath{}) || e != api.OK {
		t.Errorf("Total of nothing = %v, %d", b, e)
	}
}

func TestP32Put(t *testing.T) {
	all := []api.Step{step(api.SWater, 1), step(api.SSalt, 20), step(api.SAcid, 300), step(api.SWait, 5), step(api.SLime, 50), step(api.SPour, 600), step(api.SAcid, 4), step(api.SSalt, 5), step(api.SWater, 6)}
	for _, c := range []struct {
		l    []api.Step
		want api.Bath
	}{
		{nil, api.Bath{}}, {all, api.Bath{Water: 7, Salt: 25, Acid: 304}},
		{slices.Repeat([]api.Step{step(api.SWater, top)}, 200), api.Bath{Water: 200 * top}},
		{slices.Repeat([]api.Step{step(api.SSalt, top), step(api.SAcid, top)}, 100), api.Bath{Salt: 100 * top, Acid: 100 * top}},
		{[]api.Step{step(api.SWait, 1000), step(api.SLime, top), step(api.SPour, 1000)}, api.Bath{}},
	} {
		if got, e := bath.Put(c.l); got != c.want || e != api.OK {
			t.Errorf("Put(%v) = %v, %d; want %v", c.l, got, e, c.want)
		}
	}
}

func TestP34Hours(t *testing.T) {
	for _, c := range []struct {
		l    []api.Step
		want int
	}{
		{nil, 0}, {[]api.Step{step(api.SWait, 0)}, 0}, {slices.Repeat([]api.Step{step(api.SWait, 1000)}, 200), 200000},
		{[]api.Step{step(api.SWait, 1), step(api.SWater, 20), step(api.SSalt, 30), step(api.SAcid, 40), step(api.SLime, 50), step(api.SPour, 60), step(api.SWait, 700)}, 701},
	} {
		if got, e := bath.Hours(c.l); got != c.want || e != api.OK {
			t.Errorf("Hours(%v) = %d, %d", c.l, got, e)
		}
	}
}

func TestP34RunOfBoth(t *testing.T) {
	whole, stopped, stoppedLater := 0, 0, 0
	cases(38, 5000, func(v api.Vat, l, more []api.Step) {
		want, n, e := bath.Run(v, l)
		count := n
		switch {
		case e == api.OK:
			want, n, e = bath.Run(want, more)
			count += n
			if e == api.OK {
				whole++
			} else {
				stoppedLater++
			}
		default:
			stopped++
		}
		if got, k, ke := bath.Run(v, slices.Concat(l, more)); got != want || k != count || ke != e {
			t.Fatalf("Run(%v, %v and %v) = %v, %d, %d; want %v, %d, %d", v, l, more, got, k, ke, want, count, e)
		}
	})
	if whole < 500 || stopped < 100 || stoppedLater < 100 {
		t.Errorf("%d cases ran, %d stopped in the first steps, %d in the others", whole, stopped, stoppedLater)
	}
}

func TestP34RunIsStepByStep(t *testing.T) {
	cases(39, 2000, func(v api.Vat, l, _ []api.Step) {
		want, wantE, count := v, api.OK, 0
		for _, s := range l {
			next, e := bath.Do(want, s)
			want, wantE = next, e
			if e != api.OK {
				break
			}
			count++
		}
		if got, n, e := bath.Run(v, l); got != want || n != count || e != wantE {
			t.Fatalf("Run(%v, %v) = %v, %d, %d; want %v, %d, %d", v, l, got, n, e, want, count, wantE)
		}
	})
}

func TestP34WaitingAdds(t *testing.T) {
	d := dice(40)
	for range 1000 {
		v, m, n := d.vat(), d.throw(40), d.throw(40)
		once, twice := mustRun(v, step(api.SWait, m+n)), mustRun(v, step(api.SWait, m), step(api.SWait, n))
		hours := v
		for range m + n {
			hours, _ = bath.Hour(hours)
		}
		if once != twice || once != hours {
			t.Fatalf("%d and %d hours of %v: %v, %v, %v", m, n, v, once, twice, hours)
		}
	}
	long := api.Vat{Bath: api.Bath{Water: top / 2, Acid: top}, Skin: api.Skin{Water: top / 2, Open: 1}}
	if a, b := mustRun(long, step(api.SWait, 1000)), mustRun(long, step(api.SWait, 999)); a == b || a != hourOn(b) {
		t.Errorf("1000 hours: %v, 999: %v", a, b)
	}
}
