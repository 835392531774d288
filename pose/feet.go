package pose

import (
	"cmp"
	"math/bits"
	"slices"

	"armature/api"
)

const (
	maxFeet        = 8
	maxFoot        = 20000         // and as much below 0
	maxNumerator   = 1000000000000 // and as much below 0
	maxDenominator = 10000000
)

// Hull returns the corners of the feet's hull counterclockwise, from the one with the least Y, then the least X.
func Hull(feet []api.Way) ([]api.Way, api.Errno) {
	if !validFeet(feet) {
		return nil, api.ErrRange
	}
	return hull(feet), api.OK
}

// Over reports whether a point is over the feet.
func Over(feet []api.Way, x, y api.Ratio) (bool, api.Errno) {
	if !validFeet(feet) || !isFraction(x) || !isFraction(y) {
		return false, api.ErrRange
	}
	return holds(hull(feet), x, y), api.OK
}

// Stands reports whether the centre of a pose is over the feet.
func Stands(l []api.Bone, p []int, feet []api.Way) (bool, api.Errno) {
	if !ValidPose(l, p) {
		return false, api.ErrInvalid
	}
	if !validFeet(feet) {
		return false, api.ErrRange
	}
	x, y, e := Centre(l, p)
	if e != api.OK {
		return false, e
	}
	return Over(feet, x, y)
}

func validFeet(feet []api.Way) bool {
	if !within(1, maxFeet, len(feet)) {
		return false
	}
	for _, f := range feet {
		if !within(-maxFoot, maxFoot, f.X, f.Y) {
			return false
		}
	}
	return true
}

func isFraction(r api.Ratio) bool {
	return within(1, maxDenominator, r.D) && within(-maxNumerator, maxNumerator, r.N)
}

func hull(feet []api.Way) []api.Way {
	points := around(feet)
	// The stack has its own end: what is put on it goes to new memory, not over the points gone through.
	stack := points[:1:1]
	for _, p := range points[1:] {
		for n := len(stack); n > 1 && turn(stack[n-2], stack[n-1], p) <= 0; n = len(stack) {
			stack = stack[:n-1]
		}
		stack = append(stack, p)
	}
	return stack
}

// around returns all places of feet once: the first corner, and then the others as a look from there to the left passes them, of those in a line the nearer ones first.
func around(feet []api.Way) []api.Way {
	points := slices.Clone(feet)
	slices.SortFunc(points, func(a, b api.Way) int {
		return cmp.Or(cmp.Compare(a.Y, b.Y), cmp.Compare(a.X, b.X))
	})
	points = slices.Compact(points)
	first := points[0]
	// No other point is below the first one, so those in a line with it are nearest first already.
	slices.SortStableFunc(points[1:], func(a, b api.Way) int { return turn(first, b, a) })
	return points
}

// turn is above 0 if the way from a by b to c turns left, and below 0 if it turns right.
func turn(a, b, c api.Way) int {
	u, v := minus(b, a), minus(c, a)
	return u.X*v.Y - u.Y*v.X
}

// holds reports whether a point is in the figure with these corners, or on its edge.
func holds(corners []api.Way, x, y api.Ratio) bool {
	var xs, ys []int
	before := corners[len(corners)-1]
	for _, c := range corners {
		if isRight(before, c, x, y) {
			return false
		}
		xs, ys = append(xs, c.X), append(ys, c.Y)
		before = c
	}
	// Where the corners are a point or a line, what lies beyond its ends may be to the right of no edge.
	return spans(xs, x) && spans(ys, y)
}

// isRight reports whether a point is to the right of the line from a to b.
func isRight(a, b api.Way, x, y api.Ratio) bool {
	u := minus(b, a)
	return isLess(u.X*x.D, y.N-a.Y*y.D, u.Y*y.D, x.N-a.X*x.D)
}

// spans reports whether a fraction is from the least of numbers to the greatest one.
func spans(numbers []int, r api.Ratio) bool {
	return within(slices.Min(numbers)*r.D, slices.Max(numbers)*r.D, r.N)
}

// isLess reports whether a * b is less than c * d, also where these products do not fit.
func isLess(a, b, c, d int) bool {
	high, low := product(a, b)
	otherHigh, otherLow := product(c, d)
	return high < otherHigh || high == otherHigh && low < otherLow
}

// product returns a product in two words, the higher one with its sign.
func product(a, b int) (high int64, low uint64) {
	h, low := bits.Mul64(uint64(a), uint64(b))
	// A number below 0 was taken for one that is greater by 1<<64.
	if a < 0 {
		h -= uint64(b)
	}
	if b < 0 {
		h -= uint64(a)
	}
	return int64(h), low
}
