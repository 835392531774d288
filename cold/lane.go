package cold

import (
	"cmp"
	"slices"

	"armature/api"
)

// Lanes returns the lanes that boxes are given first come first.
func Lanes(b []api.Box) ([]int, api.Errno) {
	if !ValidBoxes(b) {
		return nil, api.ErrInvalid
	}
	lanes := make([]int, len(b))
	taken := map[int]int{} // until which hour, by lane
	for _, i := range coming(b) {
		for lane, to := range taken {
			if to <= b[i].From {
				delete(taken, lane)
			}
		}
		lane := free(taken)
		taken[lane] = b[i].To
		lanes[i] = lane
	}
	return lanes, api.OK
}

// Right reports whether no two boxes with the same lane are there at the same hour.
func Right(b []api.Box, lanes []int) bool {
	if !ValidBoxes(b) || len(lanes) != len(b) {
		return false
	}
	for i, lane := range lanes {
		if lane < 0 {
			return false
		}
		for j := range i {
			if lanes[j] == lane && together(b[i], b[j]) {
				return false
			}
		}
	}
	return true
}

// Most returns the first hour at which the most boxes are there, and how many.
func Most(b []api.Box) (hour, count int, e api.Errno) {
	return greatest(b, func(api.Box) int { return 1 })
}

// coming returns the boxes in the order in which they come.
func coming(b []api.Box) []int {
	order := make([]int, len(b))
	for i := range order {
		order[i] = i
	}
	slices.SortStableFunc(order, func(i, j int) int { return cmp.Compare(b[i].From, b[j].From) })
	return order
}

// free returns the least lane that is not taken.
func free(taken map[int]int) int {
	for lane := range len(taken) {
		if _, found := taken[lane]; !found {
			return lane
		}
	}
	return len(taken)
}

func together(a, b api.Box) bool { return a.From < b.To && b.From < a.To }
