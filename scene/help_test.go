package scene_test

import (
	"math"
	"math/big"
	"slices"

	"armature/api"
)

const (
	maxHeight = 1000
	maxPoint  = 3000
	maxBefore = 100
	maxEye    = 2000
)

// ground is a ground with a copy of some heights, and 0 in the cells after these.
func ground(wide, deep int, heights ...int) api.Ground {
	return api.Ground{Wide: wide, Deep: deep, Height: slices.Concat(heights, make([]int, wide*deep-len(heights)))}
}

func level(wide, deep, height int) api.Ground {
	return ground(wide, deep, slices.Repeat([]int{height}, wide*deep)...)
}

func eye(x, before, height int) api.Eye { return api.Eye{X: x, Before: before, Height: height} }

// ridge is the example of the chapter.
func ridge() (api.Ground, api.Eye) { return ground(1, 3, 0, 50, 0), eye(0, 1, 100) }

// corners are the eyes at the limits of what is an eye for a ground.
func corners(g api.Ground) []api.Eye {
	var l []api.Eye
	for _, x := range []int{0, g.Wide - 1} {
		for _, before := range []int{1, maxBefore} {
			l = append(l, eye(x, before, 0), eye(x, before, maxEye))
		}
	}
	return l
}

func sameGround(a, b api.Ground) bool {
	return a.Wide == b.Wide && a.Deep == b.Deep && slices.Equal(a.Height, b.Height)
}

func isZero(g api.Ground) bool { return g.Wide == 0 && g.Deep == 0 && len(g.Height) == 0 }

// dice throws numbers that are the same in every run.
type dice uint64

func (d *dice) throw(n int) int {
	*d = *d*6364136223846793005 + 1442695040888963407
	return int(uint64(*d) >> 33 % uint64(n))
}

// ground throws a ground with sides up to most, often a low one in which much is at the same height.
func (d *dice) ground(most int) api.Ground {
	g := ground(1+d.throw(most), 1+d.throw(most))
	top := [5]int{0, 2, 10, 100, maxHeight}[d.throw(5)]
	for i := range g.Height {
		g.Height[i] = d.throw(top + 1)
	}
	return g
}

// eye throws an eye for a ground, often one that looks along its heights.
func (d *dice) eye(g api.Ground) api.Eye {
	before := [4]int{1, 3, 10, maxBefore}[d.throw(4)]
	height := [4]int{0, 5, 2 + 2*slices.Max(g.Height), maxEye}[d.throw(4)]
	return eye(d.throw(g.Wide), 1+d.throw(before), d.throw(min(height, maxEye)+1))
}

// point throws a point, often one near the ground.
func (d *dice) point(g api.Ground) (x, y, h int) {
	x, y = d.throw(g.Wide), d.throw(g.Deep)
	height := g.Height[x+g.Wide*y]
	return x, y, [4]int{height, height + d.throw(20), d.throw(30), d.throw(maxPoint + 1)}[d.throw(4)]
}

func (d *dice) list(long, below int) []int {
	var l []int
	for range long {
		l = append(l, d.throw(below))
	}
	return l
}

// mounts throws the heights of mounts, often low ones.
func (d *dice) mounts() []int {
	return d.list(d.throw(7), [5]int{1, 3, 10, 100, maxHeight + 1}[d.throw(5)])
}

// on says anew what is at a part of the way from a to b.
func on(a, b int, part *big.Rat) *big.Rat {
	way := new(big.Rat).Mul(big.NewRat(int64(b-a), 1), part)
	return way.Add(way, big.NewRat(int64(a), 1))
}

// part is the part of the way from an eye to a row y that ends in the row.
func part(e api.Eye, y, row int) *big.Rat {
	return big.NewRat(int64(row+e.Before), int64(y+e.Before))
}

// crossesOf lists anew the cells of a row over which the line to a cell passes.
func crossesOf(g api.Ground, e api.Eye, x, y, row int) []int {
	across := on(e.X, x, part(e, y, row))
	var l []int
	for c := range g.Wide {
		off := new(big.Rat).Sub(across, big.NewRat(int64(c), 1))
		if off.Abs(off).Cmp(big.NewRat(1, 2)) <= 0 {
			l = append(l, c)
		}
	}
	return l
}

// hidersOf lists anew all cells that hide a point, in ascending order.
func hidersOf(g api.Ground, e api.Eye, x, y, h int) []int {
	var l []int
	for row := range y {
		line := on(e.Height, h, part(e, y, row))
		for _, c := range crossesOf(g, e, x, y, row) {
			if cell := c + g.Wide*row; big.NewRat(int64(g.Height[cell]), 1).Cmp(line) > 0 {
				l = append(l, cell)
			}
		}
	}
	return l
}

func seenOf(g api.Ground, e api.Eye, x, y, h int) bool { return len(hidersOf(g, e, x, y, h)) == 0 }

// rightOf says anew whether cells show all mounts.
func rightOf(g api.Ground, e api.Eye, heights, cells []int) bool {
	if len(heights) != len(cells) {
		return false
	}
	mounted := ground(g.Wide, g.Deep, g.Height...)
	used := map[int]bool{}
	for i, c := range cells {
		if c < 0 || c >= len(g.Height) || used[c] || g.Height[c]+heights[i] > maxHeight {
			return false
		}
		used[c] = true
		mounted.Height[c] = g.Height[c] + heights[i]
	}
	for _, c := range cells {
		if !seenOf(mounted, e, c%g.Wide, c/g.Wide, mounted.Height[c]) {
			return false
		}
	}
	return true
}

// placedOf places mounts anew; it returns nothing and false if one of them finds no cell.
func placedOf(g api.Ground, e api.Eye, heights []int) ([]int, bool) {
	var cells []int
	for i := range heights {
		next := -1
		for c := 0; c < len(g.Height) && next < 0; c++ {
			if rightOf(g, e, heights[:i+1], slices.Concat(cells, []int{c})) {
				next = c
			}
		}
		if next < 0 {
			return nil, false
		}
		cells = append(cells, next)
	}
	return cells, true
}

func farNumbers() []int {
	return []int{math.MinInt, math.MinInt32, -1, 25, 1 << 32, math.MaxInt}
}

func wrongGrounds() []api.Ground {
	l := []api.Ground{{}, {Wide: 1, Deep: 1}, {Height: []int{1}}, {Wide: 1, Height: []int{1}}, {Deep: 1, Height: []int{1}}, {Wide: 2, Deep: 2, Height: []int{1, 2, 3}}, {Wide: 2, Deep: 2, Height: []int{1, 2, 3, 4, 5}}, {Wide: 2, Deep: 3, Height: make([]int, 5)}, {Wide: -1, Deep: -1, Height: []int{1}}, {Wide: -2, Deep: -3, Height: make([]int, 6)}, ground(25, 1), ground(1, 25), ground(25, 25), {Wide: 1 << 32, Deep: 1 << 32}, {Wide: 24, Deep: 24}, {Wide: 24, Deep: 24, Height: make([]int, 1<<16)}}
	for _, n := range farNumbers() {
		l = append(l, api.Ground{Wide: n, Deep: 1, Height: []int{1}}, api.Ground{Wide: 1, Deep: n, Height: []int{1}}, api.Ground{Wide: n, Deep: n, Height: []int{1}}, api.Ground{Wide: n, Deep: 24})
	}
	for _, n := range []int{math.MinInt, -1, maxHeight + 1, 1 << 32, math.MaxInt} {
		l = append(l, ground(1, 1, n), ground(2, 2, n), ground(2, 2, 1, 2, 3, n), ground(24, 24, n), ground(1, 3, 0, n, 0))
	}
	return l
}

// wrongEyes are no eyes for a ground.
func wrongEyes(g api.Ground) []api.Eye {
	l := []api.Eye{{}, eye(g.Wide, 1, 0), eye(0, 0, 5), eye(0, -1, 5), eye(0, maxBefore+1, 5), eye(0, 1, -1), eye(0, 1, maxEye+1), eye(-1, 1, 0)}
	for _, n := range []int{math.MinInt, math.MinInt32, 1 << 32, math.MaxInt} {
		l = append(l, eye(n, 1, 0), eye(0, n, 0), eye(0, 1, n), eye(n, n, n))
	}
	return l
}

// wrongCells are pairs of numbers that are no cell of a ground, the first ones just not.
func wrongCells(g api.Ground) [][2]int {
	l := [][2]int{{g.Wide, 0}, {0, g.Deep}, {-1, 0}, {0, -1}, {g.Wide, -1}, {-1, g.Deep}, {g.Wide * g.Deep, 0}}
	for _, n := range farNumbers() {
		l = append(l, [2]int{n, 0}, [2]int{0, n}, [2]int{n, n})
	}
	return l
}

// wrongUpTo are numbers that are not from 0 to most, the first ones just not.
func wrongUpTo(most int) []int {
	return []int{-1, most + 1, math.MinInt, math.MinInt + 1, math.MinInt32, 1 << 32, math.MaxInt - 1, math.MaxInt}
}
