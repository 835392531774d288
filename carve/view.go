package carve

import "armature/api"

// View returns the view of a block along an axis.
func View(b api.Block, axis int) (api.View, api.Errno) {
	if !ValidBlock(b) {
		return api.View{}, api.ErrInvalid
	}
	if !isAxis(axis) {
		return api.View{}, api.ErrRange
	}
	return view(b, axis), api.OK
}

// Hull returns the block of all grains all three of whose squares are dark.
func Hull(x, y, z api.View) (api.Block, api.Errno) {
	if !ValidView(x) || !ValidView(y) || !ValidView(z) || x.Side != y.Side || y.Side != z.Side {
		return api.Block{}, api.ErrInvalid
	}
	views := [3]api.View{x, y, z}
	return made(x.Side, func(g api.Grain) bool {
		return onAll(g, x.Side, func(axis, i int) bool { return views[axis].Has[i] })
	}), api.OK
}

// Possible reports whether some block has just these views.
func Possible(x, y, z api.View) (bool, api.Errno) {
	switch _, _, _, e := Wrong(x, y, z); e {
	case api.OK:
		return false, api.OK
	case api.ErrNone:
		return true, api.OK
	default:
		return false, e
	}
}

// Wrong returns the first square that is dark in a view and not in the hull's.
func Wrong(x, y, z api.View) (axis, u, v int, e api.Errno) {
	hull, e := Hull(x, y, z)
	if e != api.OK {
		return 0, 0, 0, e
	}
	for axis, given := range [3]api.View{x, y, z} {
		seen := view(hull, axis)
		for i, dark := range given.Has {
			if dark && !seen.Has[i] {
				return axis, i % hull.Side, i / hull.Side, api.OK
			}
		}
	}
	return 0, 0, 0, api.ErrNone
}

// Spare returns the grains each of which can be taken away alone without changing any view.
func Spare(b api.Block) ([]api.Grain, api.Errno) {
	if !ValidBlock(b) {
		return nil, api.ErrInvalid
	}
	var behind [3][]int
	for axis := range behind {
		behind[axis] = depths(b, axis)
	}
	var l []api.Grain
	for g := range grains(b) {
		if onAll(g, b.Side, func(axis, i int) bool { return behind[axis][i] > 1 }) {
			l = append(l, g)
		}
	}
	return l, api.OK
}

func view(b api.Block, axis int) api.View {
	v := api.View{Side: b.Side}
	for _, n := range depths(b, axis) {
		v.Has = append(v.Has, n > 0)
	}
	return v
}

// depths returns how many grains are there behind each square of a view.
func depths(b api.Block, axis int) []int {
	behind := make([]int, b.Side*b.Side)
	square := squares()[axis]
	for g := range grains(b) {
		u, v := square(g)
		behind[u+b.Side*v]++
	}
	return behind
}

// onAll reports whether something holds for all three squares of a grain, each told by its axis and its index.
func onAll(g api.Grain, side int, holds func(axis, i int) bool) bool {
	for axis, square := range squares() {
		u, v := square(g)
		if !holds(axis, u+side*v) {
			return false
		}
	}
	return true
}

// squares tells for each axis in which square of the view along it a grain is.
func squares() [3]func(g api.Grain) (u, v int) {
	return [3]func(g api.Grain) (u, v int){
		func(g api.Grain) (u, v int) { return g.Y, g.Z },
		func(g api.Grain) (u, v int) { return g.X, g.Z },
		func(g api.Grain) (u, v int) { return g.X, g.Y },
	}
}
