package permit

import (
	"iter"
	"maps"
	"slices"

	"armature/api"
)

// sheet says of each piece which permits cover it.
type sheet [][api.MaxPermits]bool

// places says of each permit how many pieces it still may have.
type places [api.MaxPermits]int

func newSheet(pieces []api.Piece, permits []api.Permit) sheet {
	s := make(sheet, len(pieces))
	for i, x := range pieces {
		for k, p := range permits {
			s[i][k] = covers(p, x)
		}
	}
	return s
}

func allPlaces(permits []api.Permit) places {
	var left places
	for k, p := range permits {
		left[k] = p.Most
	}
	return left
}

// covering goes through the permits that cover a piece, in ascending order.
func (s sheet) covering(i int) iter.Seq[int] {
	return func(yield func(int) bool) {
		for k, covered := range s[i] {
			if covered && !yield(k) {
				return
			}
		}
	}
}

// coveringAny returns the permits that cover one of the pieces or more, in ascending order.
func (s sheet) coveringAny(pieces []int) []int {
	met := map[int]bool{}
	for _, i := range pieces {
		for k := range s.covering(i) {
			met[k] = true
		}
	}
	return slices.Sorted(maps.Keys(met))
}

// filed returns a filing with as many pieces as can be, and the pieces that are stuck: those met on all ways from the first piece that found no place (none if the filing is full).
func (s sheet) filed(left places) (filing, stuck []int) {
	filing = make([]int, len(s))
	for i := range filing {
		filing[i] = -1
	}
	met := map[int]bool{}
	// walk finds a place for a piece, and for each one that it moves to make room.
	var walk func(i int) bool
	walk = func(i int) bool {
		met[i] = true
		for k := range s.covering(i) {
			if left[k] > 0 {
				left[k]--
				filing[i] = k
				return true
			}
			for j := range filing {
				if filing[j] == k && !met[j] && walk(j) {
					filing[i] = k
					return true
				}
			}
		}
		return false
	}
	for i := range s {
		clear(met)
		if !walk(i) && stuck == nil {
			stuck = slices.Sorted(maps.Keys(met))
		}
	}
	return filing, stuck
}

// most returns how many pieces can be filed.
func (s sheet) most(left places) int {
	filing, _ := s.filed(left)
	n := 0
	for _, k := range filing {
		if k >= 0 {
			n++
		}
	}
	return n
}

// best returns the best of the filings with the most pieces.
func (s sheet) best(left places) []int {
	goal := s.most(left)
	filing := make([]int, 0, len(s))
	for i := range s {
		k := s[i:].firstChoice(left, goal)
		if k >= 0 {
			left[k]--
			goal--
		}
		filing = append(filing, k)
	}
	return filing
}

// firstChoice returns the first permit that the first piece can have while as many pieces as the goal are filed, or -1.
func (s sheet) firstChoice(left places, goal int) int {
	for k := range s.covering(0) {
		if left[k] == 0 {
			continue
		}
		rest := left
		rest[k]--
		if s[1:].most(rest)+1 == goal {
			return k
		}
	}
	return -1
}
