package pose

import (
	"cmp"
	"iter"
	"maps"
	"slices"

	"armature/api"
)

const (
	maxEnds   = 20000
	maxTarget = 8000 // and as much below 0
)

// Ends returns where the poses of a leg end, by X and then by Y.
func Ends(l []api.Bone) ([]api.Way, api.Errno) {
	if !ValidLeg(l) {
		return nil, api.ErrInvalid
	}
	all := reachedBy(l[0], reachedBehind(l)[0])
	if len(all) > maxEnds {
		return nil, api.ErrLimit
	}
	return slices.SortedFunc(maps.Keys(all), func(a, b api.Way) int {
		return cmp.Or(cmp.Compare(a.X, b.X), cmp.Compare(a.Y, b.Y))
	}), api.OK
}

// Reaches reports whether some pose reaches a target.
func Reaches(l []api.Bone, to api.Way) (bool, api.Errno) {
	switch _, e := First(l, to); e {
	case api.OK:
		return true, api.OK
	case api.ErrNone:
		return false, api.OK
	default:
		return false, e
	}
}

// First returns the first pose that reaches a target.
func First(l []api.Bone, to api.Way) ([]int, api.Errno) {
	if e := checked(l, to.X, to.Y); e != api.OK {
		return nil, e
	}
	for p := range reaching(l, to) {
		return p, api.OK
	}
	return nil, api.ErrNone
}

// Count returns how many poses reach a target.
func Count(l []api.Bone, to api.Way) (int, api.Errno) {
	if e := checked(l, to.X, to.Y); e != api.OK {
		return 0, e
	}
	n := 0
	for range reaching(l, to) {
		n++
	}
	return n, api.OK
}

// Lowest returns the first of the poses that reach a target with the least moment in y.
func Lowest(l []api.Bone, to api.Way) ([]int, api.Errno) {
	if e := checked(l, to.X, to.Y); e != api.OK {
		return nil, e
	}
	return best(reaching(l, to), func(p []int) int { return moment(l, p).Y })
}

// Steadiest returns the first of the poses that reach a target with their centre nearest to x.
func Steadiest(l []api.Bone, to api.Way, x int) ([]int, api.Errno) {
	if e := checked(l, to.X, to.Y, x); e != api.OK {
		return nil, e
	}
	wanted := 2 * weight(l) * x
	return best(reaching(l, to), func(p []int) int { return abs(moment(l, p).X - wanted) })
}

// Nearest returns the first of the poses that end nearest to a target.
func Nearest(l []api.Bone, to api.Way) ([]int, api.Errno) {
	if e := checked(l, to.X, to.Y); e != api.OK {
		return nil, e
	}
	everywhere := func(int, api.Way) bool { return true }
	return best(poses(l, nil, api.Way{}, everywhere), func(p []int) int {
		off := minus(end(l, p), to)
		return off.X*off.X + off.Y*off.Y
	})
}

// checked returns the error of a leg, or else that of the numbers of a target.
func checked(l []api.Bone, numbers ...int) api.Errno {
	if !ValidLeg(l) {
		return api.ErrInvalid
	}
	if !within(-maxTarget, maxTarget, numbers...) {
		return api.ErrRange
	}
	return api.OK
}

// best returns the first of the poses with the least measure.
func best(all iter.Seq[[]int], measure func(p []int) int) ([]int, api.Errno) {
	var found []int
	least := 0
	for p := range all {
		if m := measure(p); found == nil || m < least {
			found, least = p, m
		}
	}
	if found == nil {
		return nil, api.ErrNone
	}
	return found, api.OK
}

// reaching goes through the poses that reach a target, in ascending order.
func reaching(l []api.Bone, to api.Way) iter.Seq[[]int] {
	behind := reachedBehind(l)
	return poses(l, nil, api.Way{}, func(bone int, at api.Way) bool { return behind[bone][minus(to, at)] })
}

// poses goes through the poses that begin with some ways and go on from where these end, in ascending order. It leaves out those with a bone that ends where isHopeful says no.
func poses(l []api.Bone, begun []int, at api.Way, isHopeful func(bone int, at api.Way) bool) iter.Seq[[]int] {
	return func(yield func(p []int) bool) {
		bone := len(begun)
		if bone == len(l) {
			yield(begun)
			return
		}
		for i, w := range l[bone].Ways {
			next := plus(at, w)
			if !isHopeful(bone, next) {
				continue
			}
			// Each pose has memory of its own, as it may be kept while the next ones come.
			for p := range poses(l, append(begun[:bone:bone], i), next, isHopeful) {
				if !yield(p) {
					return
				}
			}
		}
	}
}

// reachedBehind returns for each bone what the bones behind it can reach from its end.
func reachedBehind(l []api.Bone) []map[api.Way]bool {
	behind := make([]map[api.Way]bool, len(l))
	last := len(l) - 1
	behind[last] = map[api.Way]bool{{}: true}
	for i := last; i > 0; i-- {
		behind[i-1] = reachedBy(l[i], behind[i])
	}
	return behind
}

// reachedBy returns what a bone can reach together with the bones behind it.
func reachedBy(b api.Bone, behind map[api.Way]bool) map[api.Way]bool {
	all := map[api.Way]bool{}
	for at := range behind {
		for _, w := range b.Ways {
			all[plus(at, w)] = true
		}
	}
	return all
}
