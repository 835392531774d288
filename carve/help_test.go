package carve_test

import (
	"math"
	"slices"
	"strings"

	"armature/api"
)

func grain(x, y, z int) api.Grain { return api.Grain{X: x, Y: y, Z: z} }

// block makes a block of its layers from the ground up, each of them rows with blanks between.
func block(layers ...string) api.Block {
	return api.Block{Side: len(layers), Has: signs(strings.Join(layers, " "))}
}

// outline makes a view of its rows with blanks between.
func outline(rows string) api.View {
	return api.View{Side: strings.Count(rows, " ") + 1, Has: signs(rows)}
}

func signs(s string) []bool {
	var has []bool
	for _, c := range strings.ReplaceAll(s, " ", "") {
		has = append(has, c == '#')
	}
	return has
}

// two is the block of the chapter's example.
func two() api.Block { return block("#. ..", ".. .#") }

// arch is two feet of other heights that meet above, and a grain that hangs in the air.
func arch() api.Block {
	return block("#... .... .... ..#.", "#... .... .... ..#.", "#... #... ###. ..#.", ".... .... .... ...#")
}

func empty(side int) api.Block { return api.Block{Side: side, Has: make([]bool, side*side*side)} }

func full(side int) api.Block {
	return api.Block{Side: side, Has: slices.Repeat([]bool{true}, side*side*side)}
}

func same(a, b api.Block) bool { return a.Side == b.Side && slices.Equal(a.Has, b.Has) }

func sameView(a, b api.View) bool { return a.Side == b.Side && slices.Equal(a.Has, b.Has) }

// dice throws numbers that are the same in every run.
type dice uint64

func (d *dice) throw(n int) int {
	*d = *d*6364136223846793005 + 1442695040888963407
	return int(uint64(*d) >> 33 % uint64(n))
}

// values throws values of which about so many of ten are true.
func (d *dice) values(count, ofTen int) []bool {
	var l []bool
	for range count {
		l = append(l, d.throw(10) < ofTen)
	}
	return l
}

// block throws a block, from an empty to a full one.
func (d *dice) block(side int) api.Block {
	return api.Block{Side: side, Has: d.values(side*side*side, d.throw(11))}
}

func (d *dice) view(side int) api.View {
	return api.View{Side: side, Has: d.values(side*side, 5+d.throw(6))}
}

// blocks are blocks of all sides: the empty and the full one of each, and thrown ones.
func blocks(seed dice, thrown int) []api.Block {
	l := []api.Block{two(), arch()}
	for side := 1; side <= api.MaxSide; side++ {
		l = append(l, empty(side), full(side))
		for range thrown {
			l = append(l, seed.block(side))
		}
	}
	return l
}

// there says anew whether a grain is there, also beyond the edge.
func there(b api.Block, x, y, z int) bool {
	for _, c := range []int{x, y, z} {
		if c < 0 || c >= b.Side {
			return false
		}
	}
	return b.Has[x+b.Side*(y+b.Side*z)]
}

// grainsOf lists a block's grains anew.
func grainsOf(b api.Block) []api.Grain {
	var l []api.Grain
	for z := range b.Side {
		for y := range b.Side {
			for x := range b.Side {
				if there(b, x, y, z) {
					l = append(l, grain(x, y, z))
				}
			}
		}
	}
	return l
}

// blockOf makes a block of its grains anew.
func blockOf(side int, l []api.Grain) api.Block {
	b := empty(side)
	for _, g := range l {
		b.Has[g.X+side*(g.Y+side*g.Z)] = true
	}
	return b
}

// viewsOf makes a block's three views anew.
func viewsOf(b api.Block) [3]api.View {
	var views [3]api.View
	for axis := range views {
		views[axis] = api.View{Side: b.Side, Has: make([]bool, b.Side*b.Side)}
	}
	for _, g := range grainsOf(b) {
		views[0].Has[g.Y+b.Side*g.Z] = true
		views[1].Has[g.X+b.Side*g.Z] = true
		views[2].Has[g.X+b.Side*g.Y] = true
	}
	return views
}

// darker reports whether a view is dark somewhere where another one is not.
func darker(a, b api.View) bool {
	for i, dark := range a.Has {
		if dark && !b.Has[i] {
			return true
		}
	}
	return false
}

// wrongNumbers are no side, no axis and no layer.
func wrongNumbers() []int {
	return []int{math.MinInt, math.MinInt + 1, -256, -1, api.MaxSide + 1, 256, 1 << 32, math.MaxInt}
}

func wrongBlocks() []api.Block {
	l := []api.Block{{}, {Has: make([]bool, 1)}, {Side: 1, Has: make([]bool, 2)}, {Side: 2, Has: make([]bool, 4)}, {Side: 3, Has: make([]bool, 9)}}
	for side := 1; side <= api.MaxSide; side++ {
		n := side * side * side
		l = append(l, api.Block{Side: side}, api.Block{Side: side, Has: make([]bool, n-1)}, api.Block{Side: side, Has: make([]bool, n+1)}, api.Block{Side: -side, Has: make([]bool, n)})
	}
	// Some of these have as many values as the side's power is if it does not fit.
	for _, side := range append(wrongNumbers(), 1<<22) {
		l = append(l, api.Block{Side: side}, api.Block{Side: side, Has: make([]bool, 1)})
	}
	return append(l, full(11), full(12))
}

func wrongViews() []api.View {
	l := []api.View{{}, {Has: make([]bool, 1)}, {Side: 1, Has: make([]bool, 2)}, {Side: 2, Has: make([]bool, 8)}, {Side: 11, Has: make([]bool, 121)}}
	for side := 1; side <= api.MaxSide; side++ {
		n := side * side
		l = append(l, api.View{Side: side}, api.View{Side: side, Has: make([]bool, n-1)}, api.View{Side: side, Has: make([]bool, n+1)}, api.View{Side: -side, Has: make([]bool, n)})
	}
	for _, side := range wrongNumbers() {
		l = append(l, api.View{Side: side}, api.View{Side: side, Has: make([]bool, 1)})
	}
	return l
}

// wrongGrains are in no block of a side.
func wrongGrains(side int) []api.Grain {
	var l []api.Grain
	for _, n := range []int{math.MinInt, -side, -1, side, side * side, math.MaxInt} {
		l = append(l, grain(n, 0, 0), grain(0, n, 0), grain(0, 0, n), grain(n, n, n))
	}
	// These would have the indexes of others that are there.
	return append(l, grain(side, -1, 0), grain(-1, 1, 0), grain(0, side, -1), grain(0, -1, 1), grain(side*side, 0, -1))
}
