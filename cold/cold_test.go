package cold_test

import (
	"testing"

	"armature/api"
	"armature/cold"
)

func TestP41ValidReadings(t *testing.T) {
	for _, l := range [][]api.Reading{
		nights(), full(), readings(0, 0), readings(lastHour, 0), readings(0, -maxTemp), readings(0, maxTemp), readings(0, 5, 1, 5, 2, 5), readings(7, maxTemp, lastHour-1, -maxTemp, lastHour, 0),
	} {
		if !cold.ValidReadings(l) {
			t.Errorf("ValidReadings(%v) = false", l)
		}
	}
	for _, l := range wrongReadings() {
		if cold.ValidReadings(l) {
			t.Errorf("ValidReadings(%v) = true", l)
		}
	}
}

func TestP41ValidRule(t *testing.T) {
	for _, f := range []api.Freeze{
		frost(), {Hours: 1, Times: 1}, {Temp: -maxTemp, Warm: maxTemp, Hours: 10000, Times: 5, Thaw: 10000}, {Temp: -maxTemp, Warm: -maxTemp, Hours: 1, Times: 1}, {Temp: maxTemp, Warm: maxTemp, Hours: 1, Times: 1}, {Temp: 7, Warm: 7, Hours: 2, Times: 5, Thaw: 1},
	} {
		if !cold.ValidRule(f) {
			t.Errorf("ValidRule(%v) = false", f)
		}
	}
	for _, f := range wrongRules() {
		if cold.ValidRule(f) {
			t.Errorf("ValidRule(%v) = true", f)
		}
	}
}

func TestP41ValidBoxes(t *testing.T) {
	for _, b := range [][]api.Box{nil, {}, shelf(), crowd(), {box(0, 1, 1)}, {box(lastHour-1, lastHour, 100)}, {box(5, 6, 1), box(5, 6, 1), box(0, lastHour, 50)}} {
		if !cold.ValidBoxes(b) {
			t.Errorf("ValidBoxes(%v) = false", b)
		}
	}
	for _, b := range wrongBoxes() {
		if cold.ValidBoxes(b) {
			t.Errorf("ValidBoxes(%v) = true", b)
		}
	}
}
