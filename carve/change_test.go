package carve_test

import (
	"math"
	"slices"
	"testing"

	"armature/api"
	"armature/carve"
)

// pairs are blocks of the same side in twos: equal ones, one within the other, and thrown ones.
func pairs(seed dice) [][2]api.Block {
	var l [][2]api.Block
	for _, b := range blocks(seed, 8) {
		c := seed.block(b.Side)
		less := api.Block{Side: b.Side, Has: slices.Clone(b.Has)}
		less.Has[seed.throw(len(less.Has))] = false
		l = append(l, [2]api.Block{b, b}, [2]api.Block{less, b}, [2]api.Block{b, less}, [2]api.Block{b, c}, [2]api.Block{empty(b.Side), b}, [2]api.Block{b, full(b.Side)})
	}
	return l
}

// differing are pairs of blocks that are not valid together.
func differing() [][2]api.Block {
	l := [][2]api.Block{{two(), full(1)}, {full(1), two()}, {empty(9), empty(10)}, {empty(3), full(2)}}
	for _, b := range wrongBlocks() {
		l = append(l, [2]api.Block{b, two()}, [2]api.Block{two(), b}, [2]api.Block{b, b})
	}
	return l
}

func TestP51Within(t *testing.T) {
	for _, p := range pairs(21) {
		want := true
		for i, is := range p[0].Has {
			want = want && (!is || p[1].Has[i])
		}
		if got := carve.Within(p[0], p[1]); got != want {
			t.Errorf("Within(%v, %v) = %t", p[0], p[1], got)
		}
	}
	for _, p := range differing() {
		if carve.Within(p[0], p[1]) {
			t.Errorf("Within(%v, %v) = true", p[0], p[1])
		}
	}
}

func TestP51BothAndEither(t *testing.T) {
	for _, p := range pairs(22) {
		both, either := empty(p[0].Side), empty(p[0].Side)
		for i := range both.Has {
			both.Has[i] = p[0].Has[i] && p[1].Has[i]
			either.Has[i] = p[0].Has[i] || p[1].Has[i]
		}
		if b, e := carve.Both(p[0], p[1]); e != api.OK || !same(b, both) {
			t.Errorf("Both(%v, %v) = %v, %d; want %v", p[0], p[1], b, e, both)
		}
		if b, e := carve.Either(p[0], p[1]); e != api.OK || !same(b, either) {
			t.Errorf("Either(%v, %v) = %v, %d; want %v", p[0], p[1], b, e, either)
		}
	}
	for _, p := range differing() {
		if b, e := carve.Both(p[0], p[1]); b.Side != 0 || len(b.Has) != 0 || e != api.ErrInvalid {
			t.Errorf("Both(%v, %v) = %v, %d", p[0], p[1], b, e)
		}
		if b, e := carve.Either(p[0], p[1]); b.Side != 0 || len(b.Has) != 0 || e != api.ErrInvalid {
			t.Errorf("Either(%v, %v) = %v, %d", p[0], p[1], b, e)
		}
	}
}

func TestP53Carved(t *testing.T) {
	for _, c := range []struct {
		b    api.Block
		l    []api.Grain
		want api.Block
	}{
		{full(2), []api.Grain{grain(1, 0, 0), grain(1, 0, 0)}, block("#. ##", "## ##")}, {full(2), nil, full(2)}, {full(2), grainsOf(full(2)), empty(2)},
		// Also such as are not there in it.
		{two(), []api.Grain{grain(1, 0, 0), grain(1, 1, 1), grain(0, 1, 1)}, block("#. ..", ".. ..")}, {empty(3), []api.Grain{grain(2, 2, 2), grain(0, 1, 2)}, empty(3)},
	} {
		if b, e := carve.Carved(c.b, c.l); e != api.OK || !same(b, c.want) {
			t.Errorf("Carved(%v, %v) = %v, %d; want %v", c.b, c.l, b, e, c.want)
		}
	}
	d := dice(23)
	for _, b := range blocks(24, 20) {
		gone := grainsOf(d.block(b.Side))
		kept := slices.DeleteFunc(grainsOf(b), func(g api.Grain) bool { return slices.Contains(gone, g) })
		c, e := carve.Carved(b, append(gone, gone...))
		if e != api.OK || !same(c, blockOf(b.Side, kept)) || !carve.Within(c, b) {
			t.Errorf("Carved(%v, %v) = %v, %d", b, gone, c, e)
		}
		before := views(t, b)
		for axis, after := range views(t, c) {
			if darker(after, before[axis]) {
				t.Errorf("Carved(%v, %v) is darker along %d", b, gone, axis)
			}
		}
	}
}

func TestP53CarvedErrors(t *testing.T) {
	for side := 1; side <= api.MaxSide; side++ {
		for _, g := range wrongGrains(side) {
			for _, l := range [][]api.Grain{{g}, {grain(0, 0, 0), g}, {g, grain(0, 0, 0), grain(0, 0, 0)}} {
				if b, e := carve.Carved(full(side), l); b.Side != 0 || len(b.Has) != 0 || e != api.ErrRange {
					t.Errorf("Carved(full(%d), %v) = %v, %d", side, l, b, e)
				}
			}
		}
	}
	for _, b := range wrongBlocks() {
		for _, l := range [][]api.Grain{nil, {grain(0, 0, 0)}, {grain(-1, 0, 0)}} {
			if c, e := carve.Carved(b, l); c.Side != 0 || len(c.Has) != 0 || e != api.ErrInvalid {
				t.Errorf("Carved(%v, %v) = %v, %d", b, l, c, e)
			}
		}
	}
}

// turnedOnce says anew where a grain goes by a quarter.
func turnedOnce(g api.Grain, side int) api.Grain { return grain(side-1-g.Y, g.X, g.Z) }

func mirroredOf(g api.Grain, side, axis int) api.Grain {
	c := []int{g.X, g.Y, g.Z}
	c[axis] = side - 1 - c[axis]
	return grain(c[0], c[1], c[2])
}

func TestP54GrainByGrain(t *testing.T) {
	for _, side := range []int{1, 2, 3, 4, 10} {
		for _, g := range grainsOf(full(side)) {
			b := blockOf(side, []api.Grain{g})
			for axis := range 3 {
				want := blockOf(side, []api.Grain{mirroredOf(g, side, axis)})
				if c, e := carve.Mirrored(b, axis); e != api.OK || !same(c, want) {
					t.Fatalf("Mirrored(%v of %d, %d) = %v, %d", g, side, axis, c, e)
				}
			}
			to := g
			for quarters := range 9 {
				want := blockOf(side, []api.Grain{to})
				if c, e := carve.Turned(b, quarters); e != api.OK || !same(c, want) {
					t.Fatalf("Turned(%v of %d, %d) = %v, %d", g, side, quarters, c, e)
				}
				to = turnedOnce(to, side)
			}
		}
	}
}

func TestP54AnyNumberOfQuarters(t *testing.T) {
	b := arch()
	for quarters, want := range map[int]int{-1: 3, -2: 2, -3: 1, -4: 0, -5: 3, 4: 0, 7: 3, 1000001: 1, -1000001: 3, math.MaxInt: 3, math.MaxInt - 1: 2, math.MinInt: 0, math.MinInt + 1: 1} {
		c, e := carve.Turned(b, quarters)
		if d, f := carve.Turned(b, want); e != api.OK || f != api.OK || !same(c, d) {
			t.Errorf("Turned(%d) = %v, %d; want %d quarters", quarters, c, e, want)
		}
	}
}

// kept reports whether two blocks have as many grains, faces and pieces.
func kept(t *testing.T, a, b api.Block) bool {
	t.Helper()
	type size struct{ count, faces int }
	var sizes [2]size
	var pieces [2][]int
	for i, x := range []api.Block{a, b} {
		n, e := carve.Count(x)
		m, f := carve.Faces(x)
		l, g := carve.Pieces(x)
		if e != api.OK || f != api.OK || g != api.OK {
			t.Fatalf("Count, Faces, Pieces of %v: %d, %d, %d", x, e, f, g)
		}
		sizes[i], pieces[i] = size{n, m}, l
	}
	return sizes[0] == sizes[1] && slices.Equal(pieces[0], pieces[1])
}

func TestP54Motions(t *testing.T) {
	for _, b := range blocks(25, 5) {
		for axis := range 3 {
			once, e := carve.Mirrored(b, axis)
			again, f := carve.Mirrored(once, axis)
			if e != api.OK || f != api.OK || !same(again, b) || !kept(t, once, b) {
				t.Errorf("Mirrored(%v, %d) = %v, and again %v", b, axis, once, again)
			}
		}
		turned := b
		for range 4 {
			turned, _ = carve.Turned(turned, 1)
			if !kept(t, turned, b) {
				t.Errorf("Turned(%v) = %v", b, turned)
			}
		}
		if four, e := carve.Turned(b, 4); e != api.OK || !same(turned, b) || !same(four, b) {
			t.Errorf("four quarters of %v = %v, %v", b, turned, four)
		}
	}
}

func TestP54MotionsErrors(t *testing.T) {
	for _, axis := range append(wrongNumbers(), 3) {
		if b, e := carve.Mirrored(two(), axis); b.Side != 0 || len(b.Has) != 0 || e != api.ErrRange {
			t.Errorf("Mirrored(%d) = %v, %d", axis, b, e)
		}
	}
	for _, b := range wrongBlocks() {
		for _, n := range []int{math.MinInt, -1, 0, 1, 3} {
			if c, e := carve.Mirrored(b, n); c.Side != 0 || len(c.Has) != 0 || e != api.ErrInvalid {
				t.Errorf("Mirrored(%v, %d) = %v, %d", b, n, c, e)
			}
			if c, e := carve.Turned(b, n); c.Side != 0 || len(c.Has) != 0 || e != api.ErrInvalid {
				t.Errorf("Turned(%v, %d) = %v, %d", b, n, c, e)
			}
		}
	}
}
