package bath_test

import (
	"slices"
	"testing"

	"armature/api"
	"armature/bath"
)

func TestP31ValidBath(t *testing.T) {
	for _, b := range []api.Bath{{}, {Water: top}, {Salt: top}, {Acid: top}, {Water: top, Salt: top, Acid: top}, {Water: 1, Salt: 2, Acid: 3}} {
		if !bath.ValidBath(b) {
			t.Errorf("ValidBath(%v) = false", b)
		}
	}
	for _, b := range wrongBaths() {
		if bath.ValidBath(b) {
			t.Errorf("ValidBath(%v) = true", b)
		}
	}
}

func TestP31ValidSkin(t *testing.T) {
	for _, s := range []api.Skin{{}, {Open: 1000}, {Water: top}, {Salt: top}, {Acid: top}, {Water: top, Salt: top, Acid: top, Open: 1}} {
		if !bath.ValidSkin(s) {
			t.Errorf("ValidSkin(%v) = false", s)
		}
	}
	for _, s := range wrongSkins() {
		if bath.ValidSkin(s) {
			t.Errorf("ValidSkin(%v) = true", s)
		}
	}
}

func TestP31ValidVat(t *testing.T) {
	full := api.Bath{Water: top, Salt: top, Acid: top}
	for _, v := range []api.Vat{
		{}, vat(), {Bath: full}, {Gone: full}, {Skin: api.Skin{Water: top, Salt: top, Acid: top, Open: 1000}},
		{Bath: api.Bath{Water: top}, Skin: api.Skin{Salt: top}, Gone: api.Bath{Acid: top}},
		{Bath: api.Bath{Water: top - 2, Salt: 1, Acid: 1}, Skin: api.Skin{Water: 1, Salt: top - 2, Acid: 1}, Gone: api.Bath{Water: 1, Salt: 1, Acid: top - 2}},
	} {
		if !bath.ValidVat(v) {
			t.Errorf("ValidVat(%v) = false", v)
		}
	}
	for _, v := range wrongVats() {
		if bath.ValidVat(v) {
			t.Errorf("ValidVat(%v) = true", v)
		}
	}
}

func TestP31ValidSteps(t *testing.T) {
	good := [][]api.Step{nil, {}, {step(api.SWait, 1000)}, {step(api.SPour, 1000)}, slices.Repeat([]api.Step{step(api.SAcid, top)}, api.MaxSteps)}
	for kind := 1; kind <= 6; kind++ {
		good = append(good, []api.Step{step(kind, 0), step(kind, 1), step(kind, 1000)})
	}
	for _, kind := range []int{api.SWater, api.SSalt, api.SAcid, api.SLime} {
		good = append(good, []api.Step{step(kind, 1001), step(kind, top)})
	}
	for _, l := range good {
		if !bath.ValidSteps(l) {
			t.Errorf("ValidSteps(%v) = false", l)
		}
	}
	for _, l := range wrongLists() {
		if bath.ValidSteps(l) {
			t.Errorf("ValidSteps(%v) = true", l)
		}
	}
}
