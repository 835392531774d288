package pose_test

import (
	"math"
	"math/big"
	"slices"

	"armature/api"
)

const (
	maxWeight = 100000
	farTarget = 8000
	farFoot   = 20000
	maxN      = 1000000000000
	maxD      = 10000000
)

func way(x, y int) api.Way { return api.Way{X: x, Y: y} }

func whole(n int) api.Ratio { return api.Ratio{N: n, D: 1} }

func fraction(n, d int) api.Ratio { return api.Ratio{N: n, D: d} }

// ways makes a list of pairs of numbers.
func ways(numbers ...int) []api.Way {
	var l []api.Way
	for i := 0; i+1 < len(numbers); i += 2 {
		l = append(l, way(numbers[i], numbers[i+1]))
	}
	return l
}

func bone(weight int, numbers ...int) api.Bone {
	return api.Bone{Weight: weight, Ways: ways(numbers...)}
}

// along is a bone of the weight 1 with ways along x, and up one with ways along y.
func along(numbers ...int) api.Bone {
	b := api.Bone{Weight: 1}
	for _, n := range numbers {
		b.Ways = append(b.Ways, way(n, 0))
	}
	return b
}

func up(numbers ...int) api.Bone {
	b := along(numbers...)
	for i := range b.Ways {
		b.Ways[i] = way(0, b.Ways[i].X)
	}
	return b
}

// bent is the leg of the chapter's example.
func bent() []api.Bone { return []api.Bone{bone(10, 0, -5, 3, -4), bone(10, 0, -5, -3, -4)} }

// swapped reaches (5, -5) in two poses, of which the first one is lower.
func swapped() []api.Bone { return []api.Bone{bone(10, 0, -5, 5, 0), bone(0, 5, 0, 0, -5)} }

// widest is a leg with the most poses, all of which end elsewhere.
func widest() []api.Bone {
	var l []api.Bone
	for k := range api.MaxBones / 2 {
		for _, b := range []api.Bone{along(0, 1, 2, 3, 4, 5, 6, 7), up(0, 1, 2, 3, 4, 5, 6, 7)} {
			for i := range b.Ways {
				b.Ways[i] = way(b.Ways[i].X<<(3*k), b.Ways[i].Y<<(3*k))
			}
			l = append(l, b)
		}
	}
	return l
}

// farthest is the heaviest leg that reaches as far as a leg can, to both sides.
func farthest() []api.Bone {
	var l []api.Bone
	for range api.MaxBones {
		l = append(l, bone(maxWeight, 1000, 1000, -1000, -1000))
	}
	return l
}

// legs are legs of all numbers of bones, some of them with poses that end at the same place.
func legs(seed dice, thrown int) [][]api.Bone {
	l := [][]api.Bone{bent(), swapped(), farthest(), {bone(0, 0, 0)}, {bone(maxWeight, -1000, 1000)}, {along(0, 1, 2), along(0, 1, 2), up(0, -1), along(1, 0)}}
	for range thrown {
		for n := 1; n <= api.MaxBones; n++ {
			l = append(l, seed.leg(n))
		}
	}
	return l
}

func sameLeg(a, b []api.Bone) bool {
	return slices.EqualFunc(a, b, func(x, y api.Bone) bool { return x.Weight == y.Weight && slices.Equal(x.Ways, y.Ways) })
}

// dice throws numbers that are the same in every run.
type dice uint64

func (d *dice) throw(n int) int {
	*d = *d*6364136223846793005 + 1442695040888963407
	return int(uint64(*d) >> 33 % uint64(n))
}

// around throws a number from -n to n.
func (d *dice) around(n int) int { return d.throw(2*n+1) - n }

// leg throws a leg with less than 1000 poses, often with short ways, of which many lead to the same places.
func (d *dice) leg(bones int) []api.Bone {
	reach := [4]int{1, 3, 30, 1000}[d.throw(4)]
	heaviest := [4]int{0, 1, 20, maxWeight}[d.throw(4)]
	most := [7]int{0, 8, 8, 8, 5, 3, 3}[bones]
	var l []api.Bone
	for range bones {
		b := api.Bone{Weight: d.throw(heaviest + 1)}
		for range 1 + d.throw(most) {
			if w := way(d.around(reach), d.around(reach)); !slices.Contains(b.Ways, w) {
				b.Ways = append(b.Ways, w)
			}
		}
		l = append(l, b)
	}
	return l
}

func (d *dice) pose(l []api.Bone) []int {
	var p []int
	for _, b := range l {
		p = append(p, d.throw(len(b.Ways)))
	}
	return p
}

// feet throws feet, often with some in a line or at the same place.
func (d *dice) feet() []api.Way {
	far := [5]int{1, 2, 5, 1000, farFoot}[d.throw(5)]
	var l []api.Way
	for range 1 + d.throw(8) {
		l = append(l, way(d.around(far), d.around(far)))
	}
	return l
}

// posesOf lists all poses of a leg anew, in ascending order.
func posesOf(l []api.Bone) [][]int {
	all := [][]int{nil}
	for _, b := range l {
		var longer [][]int
		for _, p := range all {
			for i := range b.Ways {
				longer = append(longer, slices.Concat(p, []int{i}))
			}
		}
		all = longer
	}
	return all
}

// endOf says anew where a pose ends.
func endOf(l []api.Bone, p []int) api.Way {
	at := way(0, 0)
	for i := range l {
		at.X += l[i].Ways[p[i]].X
		at.Y += l[i].Ways[p[i]].Y
	}
	return at
}

// momentOf says a pose's moment anew: each way moves the middle of its own bone by a half, and the bones behind it whole.
func momentOf(l []api.Bone, p []int) api.Way {
	sum, behind := way(0, 0), 0
	for i := len(l) - 1; i >= 0; i-- {
		w := l[i].Ways[p[i]]
		sum.X += w.X * (l[i].Weight + 2*behind)
		sum.Y += w.Y * (l[i].Weight + 2*behind)
		behind += l[i].Weight
	}
	return sum
}

func weightOf(l []api.Bone) int {
	sum := 0
	for _, b := range l {
		sum += b.Weight
	}
	return sum
}

// reachingOf lists anew the poses that reach a target.
func reachingOf(l []api.Bone, to api.Way) [][]int {
	return slices.DeleteFunc(posesOf(l), func(p []int) bool { return endOf(l, p) != to })
}

// leastOf says anew which pose of a list is the first one with the least measure.
func leastOf(all [][]int, measure func(p []int) int) []int {
	if len(all) == 0 {
		return nil
	}
	return slices.MinFunc(all, func(p, q []int) int { return measure(p) - measure(q) })
}

func distance(a, b api.Way) int { return (a.X-b.X)*(a.X-b.X) + (a.Y-b.Y)*(a.Y-b.Y) }

func size(n int) int { return max(n, -n) }

// spot is a point in big fractions.
type spot struct{ x, y *big.Rat }

func spotOf(x, y api.Ratio) spot {
	return spot{big.NewRat(int64(x.N), int64(x.D)), big.NewRat(int64(y.N), int64(y.D))}
}

func spotAt(w api.Way) spot { return spotOf(whole(w.X), whole(w.Y)) }

// side tells on which side of the line from a to b a spot is: 1 to the left, -1 to the right.
func side(a, b api.Way, s spot) int {
	across := big.NewRat(int64(b.X-a.X), 1)
	across.Mul(across, new(big.Rat).Sub(s.y, big.NewRat(int64(a.Y), 1)))
	upward := big.NewRat(int64(b.Y-a.Y), 1)
	upward.Mul(upward, new(big.Rat).Sub(s.x, big.NewRat(int64(a.X), 1)))
	return across.Cmp(upward)
}

// between says whether a spot is on the line from a to b, both of them included.
func between(a, b api.Way, s spot) bool {
	within := func(least, most int, r *big.Rat) bool {
		return big.NewRat(int64(least), 1).Cmp(r) <= 0 && r.Cmp(big.NewRat(int64(most), 1)) <= 0
	}
	return side(a, b, s) == 0 && within(min(a.X, b.X), max(a.X, b.X), s.x) && within(min(a.Y, b.Y), max(a.Y, b.Y), s.y)
}

// isOver says anew whether a spot is over feet: if it is on a line from one of them to another, or in the triangle of three.
func isOver(feet []api.Way, s spot) bool {
	for i, a := range feet {
		for j, b := range feet[:i+1] {
			if between(a, b, s) {
				return true
			}
			for _, c := range feet[:j] {
				ab, bc, ca := side(a, b, s), side(b, c, s), side(c, a, s)
				if ab == bc && bc == ca && ab != 0 {
					return true
				}
			}
		}
	}
	return false
}

func wrongBones() []api.Bone {
	l := []api.Bone{{}, {Weight: 1}, {Weight: -1}, bone(-1, 0, 0), bone(maxWeight+1, 0, 0), bone(math.MinInt, 1, 1), bone(math.MaxInt, 1, 1)}
	for _, n := range []int{math.MinInt, math.MinInt32, -1001, 1001, 1 << 32, math.MaxInt} {
		l = append(l, bone(1, n, 0), bone(1, 0, n), bone(1, n, n), bone(1, 0, 0, n, 1), bone(1, 5, 5, 6, n, 7, 7))
	}
	// The same way twice, next to each other or not, and too many.
	l = append(l, bone(1, 0, 0, 0, 0), bone(1, 1, 2, 3, 4, 1, 2), bone(1, 1, 1, -1, -1, 1, -1, -1, 1, 0, 0, 5, 5, 6, 6, 5, 5))
	return append(l, along(0, 1, 2, 3, 4, 5, 6, 7, 8), api.Bone{Weight: 1, Ways: make([]api.Way, 1<<16)})
}

func wrongLegs() [][]api.Bone {
	l := [][]api.Bone{nil, {}, slices.Repeat([]api.Bone{bone(1, 1, 1)}, 7), make([]api.Bone, 1<<12)}
	for _, b := range wrongBones() {
		l = append(l, []api.Bone{b}, []api.Bone{b, bone(1, 1, 1)}, []api.Bone{bone(1, 1, 1), b}, append(slices.Repeat([]api.Bone{bone(1, 1, 1)}, 5), b))
	}
	return l
}

// wrongPoses are no poses of the example's leg.
func wrongPoses() [][]int {
	l := [][]int{nil, {}, {0}, {1}, {0, 0, 0}, {1, 1, 1, 1, 1, 1}, make([]int, 1<<12)}
	for _, n := range []int{math.MinInt, -2, -1, 2, 7, 1 << 32, math.MaxInt} {
		l = append(l, []int{n, 0}, []int{0, n}, []int{n, n}, []int{n})
	}
	return l
}

// wrongTargets are too far away, the first ones just so.
func wrongTargets() []api.Way {
	var l []api.Way
	for _, n := range []int{farTarget + 1, -farTarget - 1, farFoot, 1 << 32, math.MinInt, math.MaxInt} {
		l = append(l, way(n, 0), way(0, n), way(n, n), way(-n, n))
	}
	return l
}

func wrongFeet() [][]api.Way {
	l := [][]api.Way{nil, {}, make([]api.Way, 9), ways(0, 0, 1, 0, 2, 0, 3, 0, 4, 0, 5, 0, 6, 0, 7, 0, 8, 0), make([]api.Way, 1<<12)}
	for _, n := range []int{farFoot + 1, -farFoot - 1, 1 << 32, math.MinInt, math.MaxInt} {
		l = append(l, ways(n, 0), ways(0, n), ways(n, n), ways(0, 0, 1, 0, 0, n), ways(n, 1, 1, 1), ways(0, 0, 1, 0, 2, 0, 3, 0, 4, 0, 5, 0, 6, 0, 7, n))
	}
	return l
}

func wrongFractions() []api.Ratio {
	l := []api.Ratio{{}, fraction(1, 0), fraction(0, -1), fraction(1, maxD+1), fraction(0, maxD+1), fraction(maxN+1, 1), fraction(-maxN-1, 1), fraction(maxN+1, maxD), fraction(maxN, 0)}
	for _, n := range []int{math.MinInt, math.MinInt + 1, math.MaxInt} {
		l = append(l, fraction(n, 1), fraction(1, n), fraction(n, n), fraction(n, maxD))
	}
	return l
}
