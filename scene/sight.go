package scene

import (
	"iter"
	"sort"

	"armature/api"
)

const maxEyes = 20

// sight is a ground, with what stands on it, as an eye sees it.
type sight struct {
	ground api.Ground
	eye    api.Eye
}

// crossing is where a line of sight crosses a row: over the cells from first to last, so many rows from the eye, of all rows that it goes.
type crossing struct {
	first, last int
	gone, all   int
}

// Crosses returns how many cells of a row the line of sight to a cell passes over, and these cells.
func Crosses(g api.Ground, e api.Eye, x, y, row int) (int, []int, api.Errno) {
	if err := checked(isCell(g, x, y) && within(0, y-1, row), g, e); err != api.OK {
		return 0, nil, err
	}
	at := sight{g, e}.crossing(x, y, row)
	var cells []int
	for c := at.first; c <= at.last; c++ {
		cells = append(cells, c)
	}
	return len(cells), cells, api.OK
}

// Seen reports whether a point is seen.
func Seen(g api.Ground, e api.Eye, x, y, h int) (bool, api.Errno) {
	switch _, _, err := Hides(g, e, x, y, h); err {
	case api.OK:
		return false, api.OK
	case api.ErrNone:
		return true, api.OK
	default:
		return false, err
	}
}

// Hides returns the first cell, by row and then by x, that hides a point.
func Hides(g api.Ground, e api.Eye, x, y, h int) (cx, cy int, err api.Errno) {
	if err := checked(isCell(g, x, y) && within(0, maxPoint, h), g, e); err != api.OK {
		return 0, 0, err
	}
	cx, cy, ok := sight{g, e}.hider(x, y, h)
	if !ok {
		return 0, 0, api.ErrNone
	}
	return cx, cy, api.OK
}

// Least returns the least height at which a point of a cell is seen.
func Least(g api.Ground, e api.Eye, x, y int) (int, api.Errno) {
	if err := checked(isCell(g, x, y), g, e); err != api.OK {
		return 0, err
	}
	// What is seen at a height is seen at each greater one, so the least one can be searched for by halves.
	h := sort.Search(maxPoint+1, func(h int) bool {
		_, _, hidden := sight{g, e}.hider(x, y, h)
		return !hidden
	})
	if h > maxPoint {
		return 0, api.ErrNone
	}
	return h, api.OK
}

// All reports for each cell whether its own ground is seen.
func All(g api.Ground, e api.Eye) ([]bool, api.Errno) {
	if err := checked(true, g, e); err != api.OK {
		return nil, err
	}
	seen := make([]bool, len(g.Height))
	for cell := range seen {
		seen[cell] = !sight{g, e}.isHidden(cell)
	}
	return seen, api.OK
}

// Eyes returns the indexes of the eyes from which a point is seen.
func Eyes(g api.Ground, l []api.Eye, x, y, h int) ([]int, api.Errno) {
	if err := checked(len(l) <= maxEyes && isCell(g, x, y) && within(0, maxPoint, h), g, l...); err != api.OK {
		return nil, err
	}
	var seeing []int
	for i, e := range l {
		if _, _, hidden := (sight{g, e}).hider(x, y, h); !hidden {
			seeing = append(seeing, i)
		}
	}
	return seeing, api.OK
}

// isHidden reports whether the top of a cell is hidden.
func (s sight) isHidden(cell int) bool {
	x, y := placeOf(s.ground, cell)
	_, _, hidden := s.hider(x, y, s.ground.Height[cell])
	return hidden
}

// hider returns the first cell that hides a point, if one does.
func (s sight) hider(x, y, h int) (cx, cy int, ok bool) {
rows:
	for row, at := range s.rows(x, y) {
		for c := at.first; c <= at.last; c++ {
			if at.isUnder(s.ground.Height[cellAt(s.ground, c, row)], s.eye.Height, h) {
				cx, cy, ok = c, row, true
				break rows
			}
		}
	}
	return cx, cy, ok
}

// rows goes through the rows before a cell, in ascending order, with where the line of sight to the cell crosses them.
func (s sight) rows(x, y int) iter.Seq2[int, crossing] {
	return func(yield func(row int, at crossing) bool) {
		for row := range y {
			if !yield(row, s.crossing(x, y, row)) {
				return
			}
		}
	}
}

func (s sight) crossing(x, y, row int) crossing {
	gone, all := row+s.eye.Before, y+s.eye.Before
	// The line crosses at across / all; a cell is at most a half of all from there. Nothing is below 0 here, so quotients are rounded down.
	across := s.eye.X*all + (x-s.eye.X)*gone
	return crossing{first: (2*across + all - 1) / (2 * all), last: (2*across + all) / (2 * all), gone: gone, all: all}
}

// isUnder reports whether the line from the eye's height to a point's goes under the top of a ground in the row.
func (c crossing) isUnder(ground, eye, point int) bool {
	return (point-eye)*c.gone < (ground-eye)*c.all
}
