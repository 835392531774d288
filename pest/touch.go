package pest

import (
	"cmp"
	"slices"

	"armature/api"
)

const (
	maxTouches = 200
	maxHolder  = 63 // who or what has poison
)

// Tainted returns who and what has poison at last.
func Tainted(l []api.Touch, things uint64) (who, what uint64, e api.Errno) {
	if !areTouches(l) {
		return 0, 0, api.ErrRange
	}
	what = things
	for _, t := range l {
		person, thing := uint64(1)<<t.Who, uint64(1)<<t.What
		if who&person != 0 || what&thing != 0 {
			who |= person
			what |= thing
		}
	}
	return who, what, api.OK
}

// Cause returns the fewest touches that bring poison to a thing.
func Cause(l []api.Touch, things uint64, thing int) ([]int, api.Errno) {
	if !areTouches(l) || !within(0, maxHolder, thing) {
		return nil, api.ErrRange
	}
	touches, ok := causes(l, things)[thing]
	if !ok {
		return nil, api.ErrNone
	}
	return touches, api.OK
}

func areTouches(l []api.Touch) bool {
	return len(l) <= maxTouches && !slices.ContainsFunc(l, func(t api.Touch) bool {
		return !within(0, maxHolder, t.Who, t.What)
	})
}

// chains are the fewest touches that bring poison to each of those who have it (or to each thing that has it).
type chains map[int][]int

// causes returns the chains of all things.
func causes(l []api.Touch, things uint64) chains {
	people, all := chains{}, chains{}
	for thing := range maxHolder + 1 {
		if things>>thing&1 == 1 {
			all[thing] = nil
		}
	}
	// The fewest touches are a chain from a thing at first, each of whose beginnings is the best one for its end.
	for i, t := range l {
		people.lengthen(t.Who, all, t.What, i)
		all.lengthen(t.What, people, t.Who, i)
	}
	return all
}

// lengthen brings poison to a holder by a touch of another one, if that one has it and this is the best chain so far.
func (c chains) lengthen(to int, others chains, from, touch int) {
	before, tainted := others[from]
	if !tainted {
		return
	}
	chain := append(slices.Clip(before), touch)
	if old, there := c[to]; !there || isBetter(chain, old) {
		c[to] = chain
	}
}

func isBetter(a, b []int) bool {
	return cmp.Or(cmp.Compare(len(a), len(b)), slices.Compare(a, b)) < 0
}
