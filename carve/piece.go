package carve

import (
	"cmp"
	"iter"
	"slices"

	"armature/api"
)

// Pieces returns the numbers of grains of all pieces, in descending order.
func Pieces(b api.Block) ([]int, api.Errno) {
	if !ValidBlock(b) {
		return nil, api.ErrInvalid
	}
	var sizes []int
	for piece := range pieces(b) {
		sizes = append(sizes, len(piece))
	}
	slices.SortFunc(sizes, func(m, n int) int { return cmp.Compare(n, m) })
	return sizes, api.OK
}

// Standing returns the block of all grains whose piece has a grain on the ground.
func Standing(b api.Block) (api.Block, api.Errno) {
	if !ValidBlock(b) {
		return api.Block{}, api.ErrInvalid
	}
	var l []api.Grain
	for piece := range pieces(b) {
		if slices.ContainsFunc(piece, func(g api.Grain) bool { return g.Z == 0 }) {
			l = append(l, piece...)
		}
	}
	return listed(b.Side, l), api.OK
}

// pieces goes through the pieces of a block.
func pieces(b api.Block) iter.Seq[[]api.Grain] {
	return func(yield func([]api.Grain) bool) {
		met := make([]bool, len(b.Has))
		for g := range grains(b) {
			if !met[index(g, b.Side)] && !yield(grown(b, met, g)) {
				return
			}
		}
	}
}

// grown returns the grains of a grain's piece, and marks them as met.
func grown(b api.Block, met []bool, first api.Grain) []api.Grain {
	var queue []api.Grain
	meet := func(g api.Grain) {
		if has(b, g) && !met[index(g, b.Side)] {
			met[index(g, b.Side)] = true
			queue = append(queue, g)
		}
	}
	meet(first)
	for i := 0; i < len(queue); i++ {
		for _, g := range around(queue[i]) {
			meet(g)
		}
	}
	return queue
}
