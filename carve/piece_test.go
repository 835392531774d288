package carve_test

import (
	"slices"
	"testing"

	"armature/api"
	"armature/carve"
)

// neighbours reports whether two grains differ by 1 in one coordinate.
func neighbours(g, h api.Grain) bool {
	x, y, z := g.X-h.X, g.Y-h.Y, g.Z-h.Z
	return x*x+y*y+z*z == 1
}

// piecesOf joins grains to pieces, by giving all of a piece one name, until nothing changes.
func piecesOf(b api.Block) [][]api.Grain {
	all := grainsOf(b)
	names := make([]int, len(all))
	for i := range names {
		names[i] = i
	}
	for changed := true; changed; {
		changed = false
		for i, g := range all {
			for j, h := range all {
				if names[j] < names[i] && neighbours(g, h) {
					names[i] = names[j]
					changed = true
				}
			}
		}
	}
	pieces := make([][]api.Grain, len(all))
	for i, g := range all {
		pieces[names[i]] = append(pieces[names[i]], g)
	}
	return slices.DeleteFunc(pieces, func(l []api.Grain) bool { return len(l) == 0 })
}

// bodies are blocks in which pieces are found soon by trying.
func bodies(seed dice) []api.Block {
	l := []api.Block{two(), arch(), empty(1), full(1), full(4), empty(10)}
	for range 600 {
		l = append(l, seed.block(1+seed.throw(4)))
	}
	return l
}

func TestP55Pieces(t *testing.T) {
	// Every second grain: these touch only at their edges.
	seconds := empty(10)
	for _, g := range grainsOf(full(10)) {
		seconds.Has[g.X+10*(g.Y+10*g.Z)] = (g.X+g.Y+g.Z)%2 == 0
	}
	for _, c := range []struct {
		b    api.Block
		want []int
	}{
		{two(), []int{1, 1}}, {arch(), []int{10, 1}}, {empty(1), nil}, {empty(10), nil}, {full(1), []int{1}}, {full(10), []int{1000}}, {seconds, slices.Repeat([]int{1}, 500)},
		{block("#.. ... ...", "... #.# ..#", "... ... ##."), []int{2, 2, 1, 1}}, {block("#.. #.. #..", "... ... ...", "..# ..# ###"), []int{5, 3}},
		// The end of a row and the beginning of the next one are not beside each other.
		{block("..# #.. ...", "... ... ...", "... ... ..."), []int{1, 1}}, {block("... ... ..#", "#.. ... ...", "... ... ..."), []int{1, 1}}, {block("... ... .#.", ".#. ... ...", "... ... ..."), []int{1, 1}},
	} {
		if l, e := carve.Pieces(c.b); e != api.OK || !slices.Equal(l, c.want) {
			t.Errorf("Pieces(%v) = %v, %d; want %v", c.b, l, e, c.want)
		}
	}
	for _, b := range bodies(31) {
		var want []int
		for _, p := range piecesOf(b) {
			want = append(want, len(p))
		}
		slices.Sort(want)
		slices.Reverse(want)
		if l, e := carve.Pieces(b); e != api.OK || !slices.Equal(l, want) {
			t.Fatalf("Pieces(%v) = %v, %d; want %v", b, l, e, want)
		}
	}
}

func TestP55PiecesAddUp(t *testing.T) {
	for _, b := range blocks(32, 20) {
		sum := 0
		l, e := carve.Pieces(b)
		for _, n := range l {
			sum += n
		}
		if n, f := carve.Count(b); e != api.OK || f != api.OK || n != sum {
			t.Errorf("Pieces(%v) = %v; Count = %d", b, l, n)
		}
	}
}

func TestP55Standing(t *testing.T) {
	stands := arch()
	stands.Has[3+4*(3+4*3)] = false
	for _, c := range []struct{ b, want api.Block }{
		{two(), block("#. ..", ".. ..")}, {arch(), stands}, {stands, stands}, {empty(3), empty(3)}, {full(1), full(1)}, {full(10), full(10)},
		{block(".. ..", "## ##"), empty(2)}, {block("#. ..", "## .#"), block("#. ..", "## .#")}, {block("#.. ... ...", "... ... ...", "#.. ... ..."), block("#.. ... ...", "... ... ...", "... ... ...")},
		// It hangs from what stands.
		{block("#.. ... ...", "#.# ... ...", "### ... ..."), block("#.. ... ...", "#.# ... ...", "### ... ...")},
	} {
		if b, e := carve.Standing(c.b); e != api.OK || !same(b, c.want) {
			t.Errorf("Standing(%v) = %v, %d; want %v", c.b, b, e, c.want)
		}
	}
	for _, b := range bodies(33) {
		var want []api.Grain
		for _, p := range piecesOf(b) {
			if slices.ContainsFunc(p, func(g api.Grain) bool { return g.Z == 0 }) {
				want = append(want, p...)
			}
		}
		if got, e := carve.Standing(b); e != api.OK || !same(got, blockOf(b.Side, want)) {
			t.Fatalf("Standing(%v) = %v, %d; want %v", b, got, e, want)
		}
	}
}

// facesOf counts the faces of a block anew: those of a layer to the sides, and those up and down.
func facesOf(b api.Block) (sides []int, upright int) {
	sides = make([]int, b.Side)
	for _, g := range grainsOf(b) {
		for _, by := range []int{-1, 1} {
			if !there(b, g.X+by, g.Y, g.Z) {
				sides[g.Z]++
			}
			if !there(b, g.X, g.Y+by, g.Z) {
				sides[g.Z]++
			}
			if !there(b, g.X, g.Y, g.Z+by) {
				upright++
			}
		}
	}
	return sides, upright
}

func TestP55FacesAndGirth(t *testing.T) {
	for _, c := range []struct {
		b     api.Block
		faces int
		girth []int
	}{
		{two(), 12, []int{4, 4}}, {arch(), 48, []int{8, 8, 14, 4}}, {full(1), 6, []int{4}}, {full(2), 24, []int{8, 8}}, {full(10), 600, slices.Repeat([]int{40}, 10)}, {empty(2), 0, []int{0, 0}},
		// A hollow has faces too.
		{block("### ### ###", "### #.# ###", "### ### ###"), 60, []int{12, 16, 12}}, {block("### ### ###", "... ... ...", "... .#. ..."), 36, []int{12, 0, 4}},
	} {
		if n, e := carve.Faces(c.b); e != api.OK || n != c.faces {
			t.Errorf("Faces(%v) = %d, %d; want %d", c.b, n, e, c.faces)
		}
		for z, want := range c.girth {
			if n, e := carve.Girth(c.b, z); e != api.OK || n != want {
				t.Errorf("Girth(%v, %d) = %d, %d; want %d", c.b, z, n, e, want)
			}
		}
	}
	for _, b := range blocks(34, 20) {
		sides, upright := facesOf(b)
		sum := upright
		for z, want := range sides {
			if n, e := carve.Girth(b, z); e != api.OK || n != want {
				t.Errorf("Girth(%v, %d) = %d, %d; want %d", b, z, n, e, want)
			}
			sum += want
		}
		if n, e := carve.Faces(b); e != api.OK || n != sum {
			t.Errorf("Faces(%v) = %d, %d; want %d", b, n, e, sum)
		}
	}
}

func TestP55FacesOfThePieces(t *testing.T) {
	for _, b := range bodies(35) {
		sum := 0
		for _, p := range piecesOf(b) {
			n, _ := carve.Faces(blockOf(b.Side, p))
			sum += n
		}
		if n, e := carve.Faces(b); e != api.OK || n != sum {
			t.Fatalf("Faces(%v) = %d, %d; its pieces have %d", b, n, e, sum)
		}
	}
}

func TestP55Errors(t *testing.T) {
	for _, z := range append(wrongNumbers(), 2) {
		if n, e := carve.Girth(two(), z); n != 0 || e != api.ErrRange {
			t.Errorf("Girth(%d) = %d, %d", z, n, e)
		}
	}
	for _, b := range wrongBlocks() {
		for _, z := range []int{-1, 0, 1, 20} {
			if n, e := carve.Girth(b, z); n != 0 || e != api.ErrInvalid {
				t.Errorf("Girth(%v, %d) = %d, %d", b, z, n, e)
			}
		}
		if n, e := carve.Faces(b); n != 0 || e != api.ErrInvalid {
			t.Errorf("Faces(%v) = %d, %d", b, n, e)
		}
		if l, e := carve.Pieces(b); len(l) != 0 || e != api.ErrInvalid {
			t.Errorf("Pieces(%v) = %v, %d", b, l, e)
		}
		if c, e := carve.Standing(b); c.Side != 0 || len(c.Has) != 0 || e != api.ErrInvalid {
			t.Errorf("Standing(%v) = %v, %d", b, c, e)
		}
	}
}
