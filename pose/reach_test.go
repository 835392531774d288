package pose_test

import (
	"cmp"
	"math"
	"slices"
	"testing"

	"armature/api"
	"armature/pose"
)

// endsOf lists anew where poses end.
func endsOf(l []api.Bone) []api.Way {
	var ends []api.Way
	for _, p := range posesOf(l) {
		ends = append(ends, endOf(l, p))
	}
	slices.SortFunc(ends, func(a, b api.Way) int { return cmp.Or(a.X-b.X, a.Y-b.Y) })
	return slices.Compact(ends)
}

func TestP62Ends(t *testing.T) {
	if l, e := pose.Ends(bent()); e != api.OK || !slices.Equal(l, ways(-3, -9, 0, -10, 0, -8, 3, -9)) {
		t.Errorf("Ends = %v, %d", l, e)
	}
	for _, l := range legs(11, 20) {
		if ends, e := pose.Ends(l); e != api.OK || !slices.Equal(ends, endsOf(l)) {
			t.Fatalf("Ends(%v) = %v, %d; want %v", l, ends, e, endsOf(l))
		}
	}
	for _, l := range wrongLegs() {
		if ends, e := pose.Ends(l); len(ends) != 0 || e != api.ErrInvalid {
			t.Errorf("Ends = %v, %d", ends, e)
		}
	}
}

// interval is three bones that reach just the numbers from 0 to n - 1, some of them in several poses; n is from 65 to 192.
func interval(n int, made func(...int) api.Bone) []api.Bone {
	last := []int{0, n - 64}
	if n > 128 {
		last = []int{0, 64, n - 64}
	}
	return []api.Bone{made(0, 1, 2, 3, 4, 5, 6, 7), made(0, 8, 16, 24, 32, 40, 48, 56), made(last...)}
}

// rectangle is a leg whose ends are all places of a rectangle.
func rectangle(wide, high int) []api.Bone {
	return slices.Concat(interval(wide, along), interval(high, up))
}

func TestP62EndsLimit(t *testing.T) {
	apart := []api.Bone{along(0, 1, 2, 3, 4, 5, 6, 7), along(0, 8, 16, 24, 32), along(0, 40, 80, 120, 160), up(0, 1, 2, 3, 4), up(0, 5, 10, 15, 20), up(0, 25, 50, 75)}
	for _, c := range []struct {
		l    []api.Bone
		want int // 0: too many
	}{
		// Just the limit, and one more: 177 * 113 is 20001.
		{apart, 20000}, {rectangle(160, 125), 20000}, {rectangle(177, 113), 0}, {rectangle(113, 177), 0}, {rectangle(176, 113), 19888}, {rectangle(192, 105), 0}, {rectangle(192, 104), 19968},
		{widest(), 0}, {widest()[:5], 0}, {widest()[1:], 0}, {widest()[:4], 4096},
		// The poses may be many more.
		{slices.Repeat([]api.Bone{along(0, 1, 2, 3, 4, 5, 6, 7)}, 6), 43}, {rectangle(65, 192), 12480},
	} {
		wantError := api.OK
		if c.want == 0 {
			wantError = api.ErrLimit
		}
		if ends, e := pose.Ends(c.l); len(ends) != c.want || e != wantError {
			t.Errorf("Ends(%v) = %d ends, %d; want %d", c.l, len(ends), e, c.want)
		}
	}
}

// targets are all ends of a leg, places beside them, and far ones.
func targets(l []api.Bone) []api.Way {
	ends := endsOf(l)
	first, last := ends[0], ends[len(ends)-1]
	return append(ends, way(first.X, first.Y-1), way(first.X-1, first.Y), way(last.X+1, last.Y), way(last.X, last.Y+1), way((first.X+last.X)/2, (first.Y+last.Y)/2), way(farTarget, farTarget), way(-farTarget, -farTarget), way(0, 0))
}

func TestP62FirstReachesCount(t *testing.T) {
	none := 0
	for _, l := range legs(12, 8) {
		for _, to := range targets(l) {
			var want []int
			all := reachingOf(l, to)
			wantError := api.ErrNone
			if len(all) > 0 {
				want, wantError = all[0], api.OK
			} else {
				none++
			}
			if p, e := pose.First(l, to); e != wantError || !slices.Equal(p, want) {
				t.Fatalf("First(%v, %v) = %v, %d; want %v", l, to, p, e, want)
			}
			if ok, e := pose.Reaches(l, to); e != api.OK || ok != (len(all) > 0) {
				t.Fatalf("Reaches(%v, %v) = %t, %d", l, to, ok, e)
			}
			if n, e := pose.Count(l, to); e != api.OK || n != len(all) {
				t.Fatalf("Count(%v, %v) = %d, %d; want %d", l, to, n, e, len(all))
			}
		}
	}
	if none < 100 {
		t.Errorf("only %d targets that are not reached", none)
	}
}

func TestP62Examples(t *testing.T) {
	// Two bones of 5 reach 10 straight, 8 bent.
	for to, want := range map[api.Way][]int{way(0, -8): {1, 1}, way(0, -10): {0, 0}, way(-3, -9): {0, 1}, way(3, -9): {1, 0}} {
		if p, e := pose.First(bent(), to); e != api.OK || !slices.Equal(p, want) {
			t.Errorf("First(%v) = %v, %d", to, p, e)
		}
	}
	if n, e := pose.Count(widest(), way(73, 511)); e != api.OK || n != 1 {
		t.Errorf("Count of the widest leg = %d, %d", n, e)
	}
	if p, e := pose.First(widest(), way(73, 511)); e != api.OK || !slices.Equal(p, []int{1, 7, 1, 7, 1, 7}) {
		t.Errorf("First of the widest leg = %v, %d", p, e)
	}
	same := slices.Repeat([]api.Bone{along(0, 1, 2, 3, 4, 5, 6, 7)}, 6)
	if n, e := pose.Count(same, way(21, 0)); e != api.OK || n != 18152 {
		t.Errorf("Count of the same bones = %d, %d", n, e)
	}
	if p, e := pose.First(same, way(21, 0)); e != api.OK || !slices.Equal(p, []int{0, 0, 0, 7, 7, 7}) {
		t.Errorf("First of the same bones = %v, %d", p, e)
	}
}

func TestP62CountsOfAllEnds(t *testing.T) {
	for _, l := range append(legs(13, 8), slices.Repeat([]api.Bone{along(0, 1, 2, 3, 4, 5, 6, 7)}, 6), widest()[:4]) {
		ends, e := pose.Ends(l)
		sum := 0
		for _, to := range ends {
			n, _ := pose.Count(l, to)
			sum += n
		}
		if want := len(posesOf(l)); e != api.OK || sum != want {
			t.Errorf("the counts of all ends of %v are %d; want %d", l, sum, want)
		}
	}
}

func TestP63LowestSteadiest(t *testing.T) {
	l := swapped()
	if p, e := pose.Lowest(l, way(5, -5)); e != api.OK || !slices.Equal(p, []int{0, 0}) {
		t.Errorf("Lowest = %v, %d", p, e)
	}
	// At x = 1 and further to the left the first pose is nearer, at 1.25 it would be both.
	for x, want := range map[int][]int{3: {1, 1}, 2: {1, 1}, 1: {0, 0}, 0: {0, 0}, -1: {0, 0}, -farTarget: {0, 0}, farTarget: {1, 1}} {
		if p, e := pose.Steadiest(l, way(5, -5), x); e != api.OK || !slices.Equal(p, want) {
			t.Errorf("Steadiest(%d) = %v, %d", x, p, e)
		}
	}
	// Both are at the same distance, on either side: the first one.
	even := []api.Bone{bone(4, 1, 0, 3, 0), bone(0, 3, 0, 1, 0)}
	for _, l := range [][]api.Bone{even, {bone(4, 3, 0, 1, 0), bone(0, 1, 0, 3, 0)}} {
		if p, e := pose.Steadiest(l, way(4, 0), 1); e != api.OK || !slices.Equal(p, []int{0, 0}) {
			t.Errorf("Steadiest of even ones = %v, %d", p, e)
		}
		if p, e := pose.Lowest(l, way(4, 0)); e != api.OK || !slices.Equal(p, []int{0, 0}) {
			t.Errorf("Lowest of even ones = %v, %d", p, e)
		}
	}
}

func TestP63BestOfAll(t *testing.T) {
	d := dice(14)
	later := 0
	for _, l := range legs(15, 8) {
		for _, to := range targets(l) {
			all := reachingOf(l, to)
			wantError := api.OK
			if len(all) == 0 {
				wantError = api.ErrNone
			}
			low := leastOf(all, func(p []int) int { return momentOf(l, p).Y })
			if p, e := pose.Lowest(l, to); e != wantError || !slices.Equal(p, low) {
				t.Fatalf("Lowest(%v, %v) = %v, %d; want %v", l, to, p, e, low)
			}
			for _, x := range []int{d.around(5), d.around(farTarget), to.X / 2, farTarget, -farTarget} {
				steady := leastOf(all, func(p []int) int { return size(momentOf(l, p).X - 2*weightOf(l)*x) })
				if p, e := pose.Steadiest(l, to, x); e != wantError || !slices.Equal(p, steady) {
					t.Fatalf("Steadiest(%v, %v, %d) = %v, %d; want %v", l, to, x, p, e, steady)
				}
				if len(all) > 0 && !slices.Equal(steady, all[0]) && !slices.Equal(low, all[0]) {
					later++
				}
			}
		}
	}
	if later < 100 {
		t.Errorf("only %d times another pose than the first one is best", later)
	}
}

func TestP63Nearest(t *testing.T) {
	for _, c := range []struct {
		l    []api.Bone
		to   api.Way
		want []int
	}{
		{bent(), way(0, -7), []int{1, 1}}, {bent(), way(0, farTarget), []int{1, 1}}, {bent(), way(0, -farTarget), []int{0, 0}}, {bent(), way(0, -9), []int{0, 0}}, {bent(), way(5, -9), []int{1, 0}},
		{farthest(), way(farTarget, farTarget), []int{0, 0, 0, 0, 0, 0}}, {farthest(), way(-farTarget, -farTarget), []int{1, 1, 1, 1, 1, 1}}, {farthest(), way(farTarget, -farTarget), []int{0, 0, 0, 1, 1, 1}},
		// Both ways are as near, and here the second one is nearer by X and Y together, but not as the crow flies.
		{[]api.Bone{along(1, -1)}, way(0, 0), []int{0}}, {[]api.Bone{along(-1, 1)}, way(0, 0), []int{0}}, {[]api.Bone{bone(0, 3, 3, 0, 5)}, way(0, 0), []int{0}}, {[]api.Bone{bone(0, 0, 5, 3, 3)}, way(0, 0), []int{1}}, {[]api.Bone{bone(0, 0, 5, 4, 3, 5, 0)}, way(0, 0), []int{0}},
		{widest(), way(511, 511), []int{7, 7, 7, 7, 7, 7}}, {widest(), way(-1, -1), []int{0, 0, 0, 0, 0, 0}},
	} {
		if p, e := pose.Nearest(c.l, c.to); e != api.OK || !slices.Equal(p, c.want) {
			t.Errorf("Nearest(%v, %v) = %v, %d; want %v", c.l, c.to, p, e, c.want)
		}
	}
	d := dice(16)
	for _, l := range legs(17, 20) {
		all := posesOf(l)
		for _, to := range []api.Way{way(d.around(9), d.around(9)), way(d.around(farTarget), d.around(farTarget)), endOf(l, d.pose(l))} {
			want := leastOf(all, func(p []int) int { return distance(endOf(l, p), to) })
			if p, e := pose.Nearest(l, to); e != api.OK || !slices.Equal(p, want) {
				t.Fatalf("Nearest(%v, %v) = %v, %d; want %v", l, to, p, e, want)
			}
		}
	}
}

// answers asks everything about a target and says what came of it; it fails if a failure leaves another result.
func answers(t *testing.T, l []api.Bone, to api.Way, x int) map[string]api.Errno {
	t.Helper()
	ok, e1 := pose.Reaches(l, to)
	first, e2 := pose.First(l, to)
	n, e3 := pose.Count(l, to)
	low, e4 := pose.Lowest(l, to)
	steady, e5 := pose.Steadiest(l, to, x)
	near, e6 := pose.Nearest(l, to)
	if ok || n != 0 || len(first)+len(low)+len(steady) > 0 || e6 != api.OK && len(near) > 0 {
		t.Errorf("%t, %v, %d, %v, %v, %v for %v", ok, first, n, low, steady, near, to)
	}
	return map[string]api.Errno{"Reaches": e1, "First": e2, "Count": e3, "Lowest": e4, "Steadiest": e5, "Nearest": e6}
}

func TestP62TargetErrors(t *testing.T) {
	for _, to := range wrongTargets() {
		for name, e := range answers(t, bent(), to, 0) {
			if e != api.ErrRange {
				t.Errorf("%s(%v) = %d", name, to, e)
			}
		}
	}
	// A leg that is not valid comes before a target that is too far away.
	for _, l := range wrongLegs() {
		for _, to := range []api.Way{way(0, 0), way(farTarget+1, 0), way(0, math.MinInt)} {
			for name, e := range answers(t, l, to, math.MaxInt) {
				if e != api.ErrInvalid {
					t.Errorf("%s(%v) = %d", name, to, e)
				}
			}
		}
	}
	for name, e := range answers(t, bent(), way(1, 1), 0) {
		want := map[string]api.Errno{"First": api.ErrNone, "Lowest": api.ErrNone, "Steadiest": api.ErrNone}[name]
		if e != want {
			t.Errorf("%s of no pose = %d", name, e)
		}
	}
	for _, to := range []api.Way{way(farTarget, farTarget), way(-farTarget, farTarget), way(farTarget, -farTarget)} {
		for name, e := range answers(t, bent(), to, 0) {
			if e == api.ErrRange {
				t.Errorf("%s(%v) = %d", name, to, e)
			}
		}
	}
}

func TestP63SteadiestErrors(t *testing.T) {
	for _, x := range []int{farTarget + 1, -farTarget - 1, farFoot, 1 << 32, math.MinInt, math.MaxInt} {
		// Out of its range comes before that there is no such pose.
		for _, to := range []api.Way{way(0, -8), way(1, 1)} {
			if p, e := pose.Steadiest(bent(), to, x); len(p) != 0 || e != api.ErrRange {
				t.Errorf("Steadiest(%v, %d) = %v, %d", to, x, p, e)
			}
		}
	}
	for _, x := range []int{farTarget, -farTarget} {
		if p, e := pose.Steadiest(bent(), way(0, -8), x); e != api.OK || !slices.Equal(p, []int{1, 1}) {
			t.Errorf("Steadiest(%d) = %v, %d", x, p, e)
		}
		if p, e := pose.Steadiest(farthest(), way(0, 0), x); e != api.OK || len(p) != 6 {
			t.Errorf("Steadiest(%d) of the heaviest leg = %v, %d", x, p, e)
		}
	}
}
