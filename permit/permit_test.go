package permit_test

import (
	"math"
	"slices"
	"strings"
	"testing"

	"armature/api"
	"armature/permit"
)

func TestP21ValidPiece(t *testing.T) {
	long := strings.Repeat("a", api.MaxWord)
	for _, x := range []api.Piece{piece("owl", 0), piece("owl", api.MaxDay), {Kind: "0", Place: "z"}, {Kind: long, Place: long, Day: 7}} {
		if !permit.ValidPiece(x) {
			t.Errorf("ValidPiece(%v) = false", x)
		}
	}
	for _, x := range wrongPieces() {
		if permit.ValidPiece(x) {
			t.Errorf("ValidPiece(%v) = true", x)
		}
	}
}

func TestP21ValidPermit(t *testing.T) {
	good := []api.Permit{leave(0, "owl"), leave(100, "fox", "owl"), leave(1, eleven()[:10]...)}
	good = append(good, api.Permit{Kinds: []string{"1", "10", "a"}, Place: "b4", From: api.MaxDay, To: api.MaxDay})
	good = append(good, api.Permit{Kinds: []string{"a"}, Place: strings.Repeat("z", api.MaxWord), To: api.MaxDay})
	for _, p := range good {
		if !permit.ValidPermit(p) {
			t.Errorf("ValidPermit(%v) = false", p)
		}
	}
	for _, p := range wrongPermits() {
		if permit.ValidPermit(p) {
			t.Errorf("ValidPermit(%v) = true", p)
		}
	}
}

func TestP21Valid(t *testing.T) {
	for _, n := range []int{0, 1, api.MaxPermits} {
		if !permit.Valid(owls(0), leaves(n)) || !permit.Valid(owls(api.MaxPieces), leaves(n)) {
			t.Errorf("Valid with %d permits = false", n)
		}
	}
	wrongBooks(func(pieces []api.Piece, permits []api.Permit) {
		if permit.Valid(pieces, permits) {
			t.Errorf("Valid(%v, %v) = true", pieces, permits)
		}
	})
}

func TestP21Covers(t *testing.T) {
	p := api.Permit{Kinds: []string{"fox", "owl"}, Place: "york", From: 5, To: 9}
	for _, c := range []struct {
		x    api.Piece
		want bool
	}{
		{piece("owl", 5), true}, {piece("fox", 9), true}, {piece("owl", 7), true},
		{piece("owl", 4), false}, {piece("owl", 10), false}, {piece("bat", 7), false}, {piece("ow", 7), false}, {piece("owls", 7), false},
		{api.Piece{Kind: "owl", Place: "bath", Day: 7}, false}, {api.Piece{Kind: "york", Place: "owl", Day: 7}, false},
	} {
		if ok, e := permit.Covers(p, c.x); e != api.OK || ok != c.want {
			t.Errorf("Covers(%v) = %t, %d", c.x, ok, e)
		}
	}
	for _, x := range wrongPieces() {
		if ok, e := permit.Covers(p, x); e != api.ErrInvalid || ok {
			t.Errorf("Covers(%v) = %t, %d", x, ok, e)
		}
	}
	for _, p := range wrongPermits() {
		if ok, e := permit.Covers(p, piece("owl", 1)); e != api.ErrInvalid || ok {
			t.Errorf("Covers of %v = %t, %d", p, ok, e)
		}
	}
}

func TestP24Expired(t *testing.T) {
	var l []api.Permit
	for _, to := range []int{10, 0, 9, api.MaxDay, 9} {
		l = append(l, api.Permit{Kinds: []string{"owl"}, Place: "york", To: to})
	}
	for _, c := range []struct {
		day  int
		want []int
	}{{0, nil}, {1, []int{1}}, {9, []int{1}}, {10, []int{1, 2, 4}}, {11, []int{0, 1, 2, 4}}, {api.MaxDay, []int{0, 1, 2, 4}}} {
		if got, e := permit.Expired(l, c.day); e != api.OK || !slices.Equal(got, c.want) {
			t.Errorf("Expired(%d) = %v, %d", c.day, got, e)
		}
	}
	for _, day := range []int{math.MinInt, -1, api.MaxDay + 1, math.MaxInt} {
		if got, e := permit.Expired(l, day); e != api.ErrRange || len(got) != 0 {
			t.Errorf("Expired(%d) = %v, %d", day, got, e)
		}
		if _, e := permit.Expired(leaves(13), day); e != api.ErrInvalid {
			t.Errorf("Expired(%d) of too many = %d", day, e)
		}
	}
	for _, p := range wrongPermits() {
		if got, e := permit.Expired([]api.Permit{leave(1, "owl"), p}, 10); e != api.ErrInvalid || len(got) != 0 {
			t.Errorf("Expired(%v) = %v, %d", p, got, e)
		}
	}
}
