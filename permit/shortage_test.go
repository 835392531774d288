package permit_test

import (
	"math"
	"slices"
	"testing"

	"armature/api"
	"armature/permit"
)

// chosen is the numbers below n of which the bits are set.
func chosen(bits, n int) []int {
	var l []int
	for i := range n {
		if bits>>i&1 == 1 {
			l = append(l, i)
		}
	}
	return l
}

// short asks anew whether ascending lists are a shortage.
func short(pieces []api.Piece, permits []api.Permit, s api.Short) bool {
	sum := 0
	for k, p := range permits {
		covers := slices.ContainsFunc(s.Pieces, func(i int) bool { return covered(p, pieces[i]) })
		if covers != slices.Contains(s.Permits, k) {
			return false
		}
		if covers {
			sum += p.Most
		}
	}
	return sum < len(s.Pieces)
}

func TestP22Proves(t *testing.T) {
	small(11, 400, func(pieces []api.Piece, permits []api.Permit) {
		_, e := permit.File(pieces, permits)
		some := false
		for a := range 1 << len(pieces) {
			for b := range 1 << len(permits) {
				s := api.Short{Pieces: chosen(a, len(pieces)), Permits: chosen(b, len(permits))}
				ok := permit.Proves(pieces, permits, s)
				if ok != short(pieces, permits, s) {
					t.Fatalf("Proves(%v, %v, %v) = %t", pieces, permits, s, ok)
				}
				some = some || ok
			}
		}
		if some != (e == api.ErrPermit) {
			t.Fatalf("File(%v, %v) = %d, and there is a shortage: %t", pieces, permits, e, some)
		}
	})
}

func TestP22ProvesWrong(t *testing.T) {
	three := []api.Piece{piece("owl", 1), piece("owl", 2), piece("fox", 3)}
	two := []api.Permit{leave(0, "owl"), leave(1, "owl"), leave(0, "bat")}
	if !permit.Proves(three, two, api.Short{Pieces: []int{0, 1}, Permits: []int{0, 1}}) || !permit.Proves(three, two, api.Short{Pieces: []int{2}}) {
		t.Error("Proves = false")
	}
	for _, s := range []api.Short{
		{}, {Permits: []int{0}}, {Pieces: []int{0}, Permits: []int{0, 1}}, {Pieces: []int{0, 1}}, {Pieces: []int{0, 1}, Permits: []int{0}}, {Pieces: []int{0, 1}, Permits: []int{1}},
		{Pieces: []int{1, 0}, Permits: []int{0, 1}}, {Pieces: []int{0, 0}, Permits: []int{0, 1}}, {Pieces: []int{0, 1, 1}, Permits: []int{0, 1}}, {Pieces: []int{2, 2}}, {Pieces: []int{0, 1}, Permits: []int{1, 0}}, {Pieces: []int{0, 1}, Permits: []int{0, 1, 1}}, {Pieces: []int{0, 1}, Permits: []int{0, 1, 2}},
		{Pieces: []int{3}}, {Pieces: []int{-1}}, {Pieces: []int{math.MinInt, math.MaxInt}}, {Pieces: []int{0, 1, 3}, Permits: []int{0, 1}}, {Pieces: []int{2}, Permits: []int{-1}}, {Pieces: []int{2}, Permits: []int{3}}, {Pieces: []int{0, 1}, Permits: []int{0, 1, math.MaxInt}},
	} {
		if permit.Proves(three, two, s) {
			t.Errorf("Proves(%v) = true", s)
		}
	}
	wrongBooks(func(pieces []api.Piece, permits []api.Permit) {
		for b := range 4 {
			if s := (api.Short{Pieces: chosen(3, len(pieces)), Permits: chosen(b, 2)}); permit.Proves(pieces, permits, s) {
				t.Errorf("Proves(%v, %v, %v) = true", pieces, permits, s)
			}
		}
	})
}

func TestP22Shortage(t *testing.T) {
	d := dice(12)
	for i := range 3000 {
		pieces, permits := d.desk(5+35*(i%2), 3+9*(i%2), 2+12*(i%2))
		s, e := permit.Shortage(pieces, permits)
		full := mustMost(pieces, permits) == len(pieces)
		if full && (e != api.ErrNone || len(s.Pieces)+len(s.Permits) != 0) {
			t.Fatalf("Shortage(%v, %v) = %v, %d", pieces, permits, s, e)
		}
		if !full && (e != api.OK || !permit.Proves(pieces, permits, s) || !short(pieces, permits, s)) {
			t.Fatalf("Shortage(%v, %v) = %v, %d", pieces, permits, s, e)
		}
		if _, f := permit.File(pieces, permits); (f == api.ErrPermit) != (e != api.ErrNone) {
			t.Fatalf("File(%v, %v) = %d, Shortage %d", pieces, permits, f, e)
		}
	}
}

func TestP22ShortageEdges(t *testing.T) {
	if s, e := permit.Shortage(owls(2), leaves(1)); e != api.OK || !slices.Equal(s.Pieces, []int{0, 1}) || !slices.Equal(s.Permits, []int{0}) {
		t.Errorf("Shortage of two owls = %v, %d", s, e)
	}
	if s, e := permit.Shortage([]api.Piece{piece("owl", 1), piece("bat", 1)}, leaves(1)); e != api.OK || !slices.Equal(s.Pieces, []int{1}) || len(s.Permits) != 0 {
		t.Errorf("Shortage of a bat = %v, %d", s, e)
	}
	if s, e := permit.Shortage(owls(1), []api.Permit{leave(0, "owl")}); e != api.OK || !slices.Equal(s.Pieces, []int{0}) || !slices.Equal(s.Permits, []int{0}) {
		t.Errorf("Shortage with a permit for none = %v, %d", s, e)
	}
	if s, e := permit.Shortage(nil, nil); e != api.ErrNone || len(s.Pieces) != 0 {
		t.Errorf("Shortage of nothing = %v, %d", s, e)
	}
}
