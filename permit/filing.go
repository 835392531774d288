package permit

import (
	"slices"

	"armature/api"
)

// Right reports whether each permit that a filing gives covers its piece, and none has too many.
func Right(pieces []api.Piece, permits []api.Permit, filing []int) bool {
	if !Valid(pieces, permits) || len(filing) != len(pieces) {
		return false
	}
	left := allPlaces(permits)
	for i, k := range filing {
		if k == -1 {
			continue
		}
		if !isIndex(k, len(permits)) || !covers(permits[k], pieces[i]) || left[k] == 0 {
			return false
		}
		left[k]--
	}
	return true
}

// Full reports whether no piece of a filing is without a permit.
func Full(filing []int) bool {
	for _, k := range filing {
		// What is below -1 is no filing of any pieces.
		if k < 0 {
			return false
		}
	}
	return true
}

// File returns the first full right filing.
func File(pieces []api.Piece, permits []api.Permit) ([]int, api.Errno) {
	filing, e := Best(pieces, permits)
	if e != api.OK {
		return nil, e
	}
	if !Full(filing) {
		return nil, api.ErrPermit
	}
	return filing, api.OK
}

// Most returns how many pieces a right filing can have under permits.
func Most(pieces []api.Piece, permits []api.Permit) (int, api.Errno) {
	if !Valid(pieces, permits) {
		return 0, api.ErrInvalid
	}
	return newSheet(pieces, permits).most(allPlaces(permits)), api.OK
}

// Best returns the right filing with the most pieces in which, piece after piece, each has the first permit that it can have.
func Best(pieces []api.Piece, permits []api.Permit) ([]int, api.Errno) {
	if !Valid(pieces, permits) {
		return nil, api.ErrInvalid
	}
	return newSheet(pieces, permits).best(allPlaces(permits)), api.OK
}

// Left returns how many pieces each permit still may have.
func Left(pieces []api.Piece, permits []api.Permit, filing []int) ([]int, api.Errno) {
	if !Right(pieces, permits, filing) {
		return nil, api.ErrInvalid
	}
	left := allPlaces(permits)
	for _, k := range filing {
		if k >= 0 {
			left[k]--
		}
	}
	return left[:len(permits)], api.OK
}

// Uncovered returns the pieces that no permit covers.
func Uncovered(pieces []api.Piece, permits []api.Permit) ([]int, api.Errno) {
	if !Valid(pieces, permits) {
		return nil, api.ErrInvalid
	}
	s := newSheet(pieces, permits)
	var list []int
	for i := range s {
		if len(s.coveringAny([]int{i})) == 0 {
			list = append(list, i)
		}
	}
	return list, api.OK
}

// Needed returns the permits without which fewer pieces could be filed.
func Needed(pieces []api.Piece, permits []api.Permit) ([]int, api.Errno) {
	return thatMatter(pieces, permits, func(int) int { return 0 })
}

// Tight returns the permits of which one piece more would let more pieces be filed.
func Tight(pieces []api.Piece, permits []api.Permit) ([]int, api.Errno) {
	return thatMatter(pieces, permits, func(most int) int { return most + 1 })
}

// Moved returns the filing with a piece under another permit, or under none.
func Moved(pieces []api.Piece, permits []api.Permit, filing []int, piece, permit int) ([]int, api.Errno) {
	left, e := Left(pieces, permits, filing)
	if e != api.OK {
		return nil, e
	}
	if !isIndex(piece, len(pieces)) || permit != -1 && !isIndex(permit, len(permits)) {
		return nil, api.ErrName
	}
	if permit != -1 && permit != filing[piece] {
		if !covers(permits[permit], pieces[piece]) {
			return nil, api.ErrPermit
		}
		if left[permit] == 0 {
			return nil, api.ErrState
		}
	}
	moved := slices.Clone(filing)
	moved[piece] = permit
	return moved, api.OK
}

func isIndex(n, count int) bool { return n >= 0 && n < count }

// thatMatter returns the permits for which another number of pieces could be filed if their own Most were changed.
func thatMatter(pieces []api.Piece, permits []api.Permit, change func(most int) int) ([]int, api.Errno) {
	if !Valid(pieces, permits) {
		return nil, api.ErrInvalid
	}
	s, left := newSheet(pieces, permits), allPlaces(permits)
	most := s.most(left)
	var list []int
	for k, p := range permits {
		changed := left
		changed[k] = change(p.Most)
		if s.most(changed) != most {
			list = append(list, k)
		}
	}
	return list, api.OK
}
