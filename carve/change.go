package carve

import "armature/api"

// Within reports whether all grains of a are in b.
func Within(a, b api.Block) bool {
	if !alike(a, b) {
		return false
	}
	for g := range grains(a) {
		if !has(b, g) {
			return false
		}
	}
	return true
}

// Carved returns the block without some grains.
func Carved(b api.Block, l []api.Grain) (api.Block, api.Errno) {
	if !ValidBlock(b) {
		return api.Block{}, api.ErrInvalid
	}
	if !allInside(l, b.Side) {
		return api.Block{}, api.ErrRange
	}
	gone := setOf(l)
	return made(b.Side, func(g api.Grain) bool { return has(b, g) && !gone[g] }), api.OK
}

// Both returns what is in both blocks.
func Both(a, b api.Block) (api.Block, api.Errno) {
	return joined(a, b, func(inA, inB bool) bool { return inA && inB })
}

// Either returns what is in one of the blocks or in both.
func Either(a, b api.Block) (api.Block, api.Errno) {
	return joined(a, b, func(inA, inB bool) bool { return inA || inB })
}

// Mirrored returns the block with the coordinate along an axis told from the other end.
func Mirrored(b api.Block, axis int) (api.Block, api.Errno) {
	if !ValidBlock(b) {
		return api.Block{}, api.ErrInvalid
	}
	if !isAxis(axis) {
		return api.Block{}, api.ErrRange
	}
	return moved(b, mirrors(b.Side)[axis]), api.OK
}

// Turned returns the block turned by quarters about the upright axis.
func Turned(b api.Block, quarters int) (api.Block, api.Errno) {
	if !ValidBlock(b) {
		return api.Block{}, api.ErrInvalid
	}
	return moved(b, func(g api.Grain) api.Grain {
		for range (quarters%4 + 4) % 4 {
			g.X, g.Y = b.Side-1-g.Y, g.X
		}
		return g
	}), api.OK
}

func alike(a, b api.Block) bool {
	return ValidBlock(a) && ValidBlock(b) && a.Side == b.Side
}

func joined(a, b api.Block, keep func(inA, inB bool) bool) (api.Block, api.Errno) {
	if !alike(a, b) {
		return api.Block{}, api.ErrInvalid
	}
	return made(a.Side, func(g api.Grain) bool { return keep(has(a, g), has(b, g)) }), api.OK
}

// moved returns the block with each grain where it moves to.
func moved(b api.Block, to func(g api.Grain) api.Grain) api.Block {
	var l []api.Grain
	for g := range grains(b) {
		l = append(l, to(g))
	}
	return listed(b.Side, l)
}

// mirrors tells for each axis where a grain moves to when that axis is mirrored.
func mirrors(side int) [3]func(g api.Grain) api.Grain {
	last := side - 1
	return [3]func(g api.Grain) api.Grain{
		func(g api.Grain) api.Grain { return api.Grain{X: last - g.X, Y: g.Y, Z: g.Z} },
		func(g api.Grain) api.Grain { return api.Grain{X: g.X, Y: last - g.Y, Z: g.Z} },
		func(g api.Grain) api.Grain { return api.Grain{X: g.X, Y: g.Y, Z: last - g.Z} },
	}
}
