package scene

import (
	"slices"

	"armature/api"
)

const maxMounts = 6

// Placed returns a cell for each of the mounts of some heights: the first one where this mount and those before it are shown.
func Placed(g api.Ground, e api.Eye, heights []int) ([]int, api.Errno) {
	if err := checked(areMounts(heights), g, e); err != api.OK {
		return nil, err
	}
	var cells []int
	for i := range heights {
		cell, ok := nextCell(g, e, heights[:i+1], cells)
		if !ok {
			return nil, api.ErrNone
		}
		cells = append(cells, cell)
	}
	return cells, api.OK
}

// Right reports whether mounts on cells are all shown.
func Right(g api.Ground, e api.Eye, heights, cells []int) bool {
	if checked(areMounts(heights), g, e) != api.OK || len(cells) != len(heights) {
		return false
	}
	return areShown(g, e, heights, cells)
}

func areMounts(heights []int) bool {
	return len(heights) <= maxMounts && within(0, maxHeight, heights...)
}

// nextCell returns the first cell for the last of some mounts, where the others stand on their cells.
func nextCell(g api.Ground, e api.Eye, heights, cells []int) (int, bool) {
	for cell := range g.Height {
		if areShown(g, e, heights, append(slices.Clip(cells), cell)) {
			return cell, true
		}
	}
	return 0, false
}

// areShown reports whether mounts can stand on cells, one for each of them, and nothing hides their tops then.
func areShown(g api.Ground, e api.Eye, heights, cells []int) bool {
	mounted, ok := mount(g, heights, cells)
	return ok && !slices.ContainsFunc(cells, sight{mounted, e}.isHidden)
}

// mount returns the ground with mounts on cells, if these are different cells and none becomes too high.
func mount(g api.Ground, heights, cells []int) (api.Ground, bool) {
	g.Height = slices.Clone(g.Height)
	for i, cell := range cells {
		if !within(0, len(g.Height)-1, cell) || slices.Contains(cells[:i], cell) {
			return api.Ground{}, false
		}
		g.Height[cell] += heights[i]
		if g.Height[cell] > maxHeight {
			return api.Ground{}, false
		}
	}
	return g, true
}
