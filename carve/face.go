package carve

import (
	"iter"

	"armature/api"
)

// Faces returns the number of all faces.
func Faces(b api.Block) (int, api.Errno) {
	if !ValidBlock(b) {
		return 0, api.ErrInvalid
	}
	n := 0
	for range faces(b) {
		n++
	}
	return n, api.OK
}

// Girth returns the number of faces of a layer that look to the sides.
func Girth(b api.Block, z int) (int, api.Errno) {
	if !ValidBlock(b) {
		return 0, api.ErrInvalid
	}
	if !isIndex(z, b.Side) {
		return 0, api.ErrRange
	}
	n := 0
	for g, missing := range faces(b) {
		if g.Z == z && missing.Z == z {
			n++
		}
	}
	return n, api.OK
}

// faces goes through the faces of a block: each is a grain and a neighbour that it misses.
func faces(b api.Block) iter.Seq2[api.Grain, api.Grain] {
	return func(yield func(g, missing api.Grain) bool) {
		for g := range grains(b) {
			for _, n := range around(g) {
				if !has(b, n) && !yield(g, n) {
					return
				}
			}
		}
	}
}
