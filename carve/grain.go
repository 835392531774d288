package carve

import (
	"iter"

	"armature/api"
)

// places goes through all grains that a block can have, in ascending order of z, then y, then x, which is that of Has.
func places(side int) iter.Seq[api.Grain] {
	return func(yield func(api.Grain) bool) {
		for i := range side * side * side {
			if !yield(api.Grain{X: i % side, Y: i / side % side, Z: i / side / side}) {
				return
			}
		}
	}
}

// grains goes through the grains that are there, in the same order.
func grains(b api.Block) iter.Seq[api.Grain] {
	return func(yield func(api.Grain) bool) {
		for g := range places(b.Side) {
			if has(b, g) && !yield(g) {
				return
			}
		}
	}
}

// asked returns what each grain that a block can have answers, in the order of Has.
func asked[T any](side int, ask func(g api.Grain) T) []T {
	answers := make([]T, 0, side*side*side)
	for g := range places(side) {
		answers = append(answers, ask(g))
	}
	return answers
}

func made(side int, isThere func(g api.Grain) bool) api.Block {
	return api.Block{Side: side, Has: asked(side, isThere)}
}

// listed makes a block of a list, in which a grain may be twice.
func listed(side int, l []api.Grain) api.Block {
	set := setOf(l)
	return made(side, func(g api.Grain) bool { return set[g] })
}

// has reports whether a grain is there; it need not be in the block.
func has(b api.Block, g api.Grain) bool {
	return inside(g, b.Side) && b.Has[index(g, b.Side)]
}

func index(g api.Grain, side int) int { return g.X + side*(g.Y+side*g.Z) }

func inside(g api.Grain, side int) bool {
	return isIndex(g.X, side) && isIndex(g.Y, side) && isIndex(g.Z, side)
}

func allInside(l []api.Grain, side int) bool {
	for _, g := range l {
		if !inside(g, side) {
			return false
		}
	}
	return true
}

func setOf(l []api.Grain) map[api.Grain]bool {
	set := map[api.Grain]bool{}
	for _, g := range l {
		set[g] = true
	}
	return set
}

// around returns a grain's neighbours, also those that are not there or beyond the block's edge.
func around(g api.Grain) [6]api.Grain {
	return [6]api.Grain{
		{X: g.X - 1, Y: g.Y, Z: g.Z}, {X: g.X + 1, Y: g.Y, Z: g.Z},
		{X: g.X, Y: g.Y - 1, Z: g.Z}, {X: g.X, Y: g.Y + 1, Z: g.Z},
		{X: g.X, Y: g.Y, Z: g.Z - 1}, {X: g.X, Y: g.Y, Z: g.Z + 1},
	}
}
