package carve_test

import (
	"slices"
	"testing"

	"armature/api"
	"armature/carve"
)

func TestP51ValidBlock(t *testing.T) {
	for _, b := range blocks(1, 1) {
		if !carve.ValidBlock(b) {
			t.Errorf("ValidBlock(%v) = false", b)
		}
	}
	for _, b := range wrongBlocks() {
		if carve.ValidBlock(b) {
			t.Errorf("ValidBlock of the side %d with %d values = true", b.Side, len(b.Has))
		}
	}
}

func TestP51ValidView(t *testing.T) {
	for side := 1; side <= api.MaxSide; side++ {
		if !carve.ValidView(api.View{Side: side, Has: make([]bool, side*side)}) {
			t.Errorf("ValidView of the side %d = false", side)
		}
	}
	for _, v := range wrongViews() {
		if carve.ValidView(v) {
			t.Errorf("ValidView of the side %d with %d values = true", v.Side, len(v.Has))
		}
	}
}

func TestP51Full(t *testing.T) {
	for side := 1; side <= api.MaxSide; side++ {
		b, e := carve.Full(side)
		n, f := carve.Count(b)
		if e != api.OK || f != api.OK || n != side*side*side || !same(b, full(side)) {
			t.Errorf("Full(%d) = %v, %d with %d grains, %d", side, b, e, n, f)
		}
	}
	for _, side := range append(wrongNumbers(), 0) {
		if b, e := carve.Full(side); b.Side != 0 || len(b.Has) != 0 || e != api.ErrRange {
			t.Errorf("Full(%d) = %v, %d", side, b, e)
		}
	}
}

func TestP51CountAndGrains(t *testing.T) {
	if l, e := carve.Grains(block("#. .#", ".. #.")); e != api.OK || !slices.Equal(l, []api.Grain{grain(0, 0, 0), grain(1, 1, 0), grain(0, 1, 1)}) {
		t.Errorf("Grains = %v, %d", l, e)
	}
	for _, b := range blocks(2, 5) {
		want := grainsOf(b)
		if l, e := carve.Grains(b); e != api.OK || !slices.Equal(l, want) {
			t.Errorf("Grains(%v) = %v, %d; want %v", b, l, e, want)
		}
		if n, e := carve.Count(b); e != api.OK || n != len(want) {
			t.Errorf("Count(%v) = %d, %d; want %d", b, n, e, len(want))
		}
	}
	for _, b := range wrongBlocks() {
		if l, e := carve.Grains(b); len(l) != 0 || e != api.ErrInvalid {
			t.Errorf("Grains(%v) = %v, %d", b, l, e)
		}
		if n, e := carve.Count(b); n != 0 || e != api.ErrInvalid {
			t.Errorf("Count(%v) = %d, %d", b, n, e)
		}
	}
}

func TestP56Of(t *testing.T) {
	for _, b := range blocks(3, 5) {
		l, _ := carve.Grains(b)
		for range 2 {
			if c, e := carve.Of(b.Side, l); e != api.OK || !same(c, b) {
				t.Errorf("Of(%d, %v) = %v, %d", b.Side, l, c, e)
			}
			slices.Reverse(l) // the order of the list does not matter
		}
	}
}

func TestP56OfErrors(t *testing.T) {
	twice := []api.Grain{grain(0, 0, 0), grain(0, 0, 0)}
	for _, c := range []struct {
		side int
		l    []api.Grain
		want api.Errno
	}{
		{1, twice, api.ErrDuplicate}, {2, []api.Grain{grain(1, 0, 1), grain(0, 0, 0), grain(1, 0, 1)}, api.ErrDuplicate}, {10, append(grainsOf(full(10)), grain(9, 9, 9)), api.ErrDuplicate}, {2, slices.Repeat(twice, 5000), api.ErrDuplicate},
		{0, nil, api.ErrRange}, {11, nil, api.ErrRange}, {0, twice, api.ErrRange}, {11, twice, api.ErrRange}, {-1, twice, api.ErrRange}, {1, []api.Grain{grain(1, 0, 0)}, api.ErrRange},
	} {
		if b, e := carve.Of(c.side, c.l); b.Side != 0 || len(b.Has) != 0 || e != c.want {
			t.Errorf("Of(%d, %v) = %v, %d; want %d", c.side, c.l, b, e, c.want)
		}
	}
	for side := 1; side <= api.MaxSide; side++ {
		for _, g := range wrongGrains(side) {
			for _, l := range [][]api.Grain{{g}, {g, g}, {g, twice[0], twice[0]}, {twice[0], twice[0], g}} {
				if b, e := carve.Of(side, l); b.Side != 0 || len(b.Has) != 0 || e != api.ErrRange {
					t.Errorf("Of(%d, %v) = %v, %d", side, l, b, e)
				}
			}
		}
	}
	for _, side := range wrongNumbers() {
		if b, e := carve.Of(side, twice); b.Side != 0 || len(b.Has) != 0 || e != api.ErrRange {
			t.Errorf("Of(%d) = %v, %d", side, b, e)
		}
	}
}
