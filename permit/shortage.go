package permit

import (
	"slices"

	"armature/api"
)

// Shortage returns pieces whose permits together allow less than they need.
func Shortage(pieces []api.Piece, permits []api.Permit) (api.Short, api.Errno) {
	if !Valid(pieces, permits) {
		return api.Short{}, api.ErrInvalid
	}
	s := newSheet(pieces, permits)
	// Every permit of the stuck pieces is full of stuck pieces, and one of them found no place.
	_, stuck := s.filed(allPlaces(permits))
	if stuck == nil {
		return api.Short{}, api.ErrNone
	}
	return api.Short{Pieces: stuck, Permits: s.coveringAny(stuck)}, api.OK
}

// Proves reports whether pieces and permits are a shortage.
func Proves(pieces []api.Piece, permits []api.Permit, s api.Short) bool {
	if !Valid(pieces, permits) || !ascending(s.Pieces, len(pieces)) {
		return false
	}
	if !slices.Equal(s.Permits, newSheet(pieces, permits).coveringAny(s.Pieces)) {
		return false
	}
	sum := 0
	for _, k := range s.Permits {
		sum += permits[k].Most
	}
	return sum < len(s.Pieces)
}

// ascending reports whether a list is of indexes below count, in strictly ascending order.
func ascending(list []int, count int) bool {
	for i, n := range list {
		if !isIndex(n, count) || i > 0 && list[i-1] >= n {
			return false
		}
	}
	return true
}
