package pose_test

import (
	"math/big"
	"slices"
	"testing"

	"armature/api"
	"armature/pose"
)

func TestP61ValidBone(t *testing.T) {
	for _, b := range []api.Bone{bone(0, 0, 0), bone(maxWeight, 0, 0), bone(5, 1000, 1000), bone(5, -1000, -1000, -1000, 1000, 1000, -1000), bone(1, 1, 2, 2, 1, 1, 1, 2, 2), along(0, 1, 2, 3, 4, 5, 6, 7), up(7, 6, 5, 4, 3, 2, 1, 0)} {
		if !pose.ValidBone(b) {
			t.Errorf("ValidBone(%v) = false", b)
		}
	}
	for _, b := range wrongBones() {
		if pose.ValidBone(b) {
			t.Errorf("ValidBone of the weight %d with %d ways = true", b.Weight, len(b.Ways))
		}
	}
}

func TestP61ValidLeg(t *testing.T) {
	for _, l := range append(legs(1, 10), widest(), slices.Repeat(bent()[:1], 6)) {
		if !pose.ValidLeg(l) {
			t.Errorf("ValidLeg(%v) = false", l)
		}
	}
	for _, l := range wrongLegs() {
		if pose.ValidLeg(l) {
			t.Errorf("ValidLeg of %d bones = true", len(l))
		}
	}
}

func TestP61ValidPose(t *testing.T) {
	for _, l := range legs(2, 10) {
		for _, p := range posesOf(l) {
			if !pose.ValidPose(l, p) {
				t.Errorf("ValidPose(%v, %v) = false", l, p)
			}
			for i := range p {
				for _, n := range []int{-1, len(l[i].Ways)} {
					q := slices.Clone(p)
					if q[i] = n; pose.ValidPose(l, q) {
						t.Errorf("ValidPose(%v, %v) = true", l, q)
					}
				}
			}
		}
	}
	for _, p := range wrongPoses() {
		if pose.ValidPose(bent(), p) {
			t.Errorf("ValidPose of %d indexes = true", len(p))
		}
	}
	for _, l := range wrongLegs() {
		if pose.ValidPose(l, make([]int, len(l))) {
			t.Errorf("ValidPose for %d bones = true", len(l))
		}
	}
}

func TestP61EndJointsWeightMoment(t *testing.T) {
	for _, l := range legs(3, 20) {
		if w, e := pose.Weight(l); e != api.OK || w != weightOf(l) {
			t.Errorf("Weight(%v) = %d, %d", l, w, e)
		}
		for _, p := range posesOf(l) {
			if at, e := pose.End(l, p); e != api.OK || at != endOf(l, p) {
				t.Fatalf("End(%v, %v) = %v, %d", l, p, at, e)
			}
			if m, e := pose.Moment(l, p); e != api.OK || m != momentOf(l, p) {
				t.Fatalf("Moment(%v, %v) = %v, %d; want %v", l, p, m, e, momentOf(l, p))
			}
			var want []api.Way
			for i := range l {
				want = append(want, endOf(l[:i+1], p))
			}
			if j, e := pose.Joints(l, p); e != api.OK || !slices.Equal(j, want) {
				t.Fatalf("Joints(%v, %v) = %v, %d; want %v", l, p, j, e, want)
			}
		}
	}
	if m, e := pose.Moment(farthest(), make([]int, 6)); e != api.OK || m != way(3600000000, 3600000000) {
		t.Errorf("Moment of the heaviest leg = %v, %d", m, e)
	}
	if w, e := pose.Weight(farthest()); e != api.OK || w != 600000 {
		t.Errorf("Weight of the heaviest leg = %d, %d", w, e)
	}
}

func TestP61Centre(t *testing.T) {
	for _, c := range []struct {
		l    []api.Bone
		p    []int
		x, y api.Ratio
	}{
		{bent(), []int{0, 0}, whole(0), whole(-5)}, {bent(), []int{1, 0}, fraction(9, 4), fraction(-17, 4)}, {bent(), []int{0, 1}, fraction(-3, 4), fraction(-19, 4)},
		{[]api.Bone{bone(1, 1, -1)}, []int{0}, fraction(1, 2), fraction(-1, 2)}, {[]api.Bone{bone(7, 0, 0)}, []int{0}, whole(0), whole(0)}, {[]api.Bone{bone(0, 5, 5), bone(3, 2, -8)}, []int{0, 0}, whole(6), whole(1)},
		{farthest(), make([]int, 6), whole(3000), whole(3000)}, {farthest(), []int{1, 1, 1, 1, 1, 1}, whole(-3000), whole(-3000)}, {[]api.Bone{bone(99999, 1000, -999), bone(maxWeight, -1, 1000)}, []int{0, 0}, fraction(149949500, 199999), fraction(-199699001, 399998)},
	} {
		if x, y, e := pose.Centre(c.l, c.p); e != api.OK || x != c.x || y != c.y {
			t.Errorf("Centre(%v, %v) = %v, %v, %d; want %v, %v", c.l, c.p, x, y, e, c.x, c.y)
		}
	}
	for _, l := range legs(4, 20) {
		w := int64(weightOf(l))
		for _, p := range posesOf(l) {
			x, y, e := pose.Centre(l, p)
			if w == 0 {
				if x != (api.Ratio{}) || y != (api.Ratio{}) || e != api.ErrNone {
					t.Fatalf("Centre(%v, %v) = %v, %v, %d", l, p, x, y, e)
				}
				continue
			}
			m := momentOf(l, p)
			wantX, wantY := big.NewRat(int64(m.X), 2*w), big.NewRat(int64(m.Y), 2*w)
			if e != api.OK || !lowest(x, wantX) || !lowest(y, wantY) {
				t.Fatalf("Centre(%v, %v) = %v, %v, %d; want %v, %v", l, p, x, y, e, wantX, wantY)
			}
		}
	}
}

// lowest says whether a fraction is another one in lowest terms.
func lowest(r api.Ratio, want *big.Rat) bool {
	return int64(r.N) == want.Num().Int64() && int64(r.D) == want.Denom().Int64()
}

func TestP61PoseErrors(t *testing.T) {
	check := func(l []api.Bone, p []int) {
		t.Helper()
		if at, e := pose.End(l, p); at != way(0, 0) || e != api.ErrInvalid {
			t.Errorf("End = %v, %d", at, e)
		}
		if j, e := pose.Joints(l, p); len(j) != 0 || e != api.ErrInvalid {
			t.Errorf("Joints = %v, %d", j, e)
		}
		if m, e := pose.Moment(l, p); m != way(0, 0) || e != api.ErrInvalid {
			t.Errorf("Moment = %v, %d", m, e)
		}
		if x, y, e := pose.Centre(l, p); x != (api.Ratio{}) || y != (api.Ratio{}) || e != api.ErrInvalid {
			t.Errorf("Centre = %v, %v, %d", x, y, e)
		}
	}
	for _, p := range wrongPoses() {
		check(bent(), p)
	}
	check([]api.Bone{bone(0, 1, 1)}, []int{1}) // ErrInvalid before ErrNone
	for _, l := range wrongLegs() {
		check(l, make([]int, len(l)))
		if w, e := pose.Weight(l); w != 0 || e != api.ErrInvalid {
			t.Errorf("Weight = %d, %d", w, e)
		}
	}
}

func TestP64Mirrored(t *testing.T) {
	if l, e := pose.Mirrored(bent()); e != api.OK || !sameLeg(l, []api.Bone{bone(10, 0, -5, -3, -4), bone(10, 0, -5, 3, -4)}) {
		t.Errorf("Mirrored = %v, %d", l, e)
	}
	for _, l := range legs(5, 20) {
		m, e := pose.Mirrored(l)
		if e != api.OK || !pose.ValidLeg(m) || weightOf(m) != weightOf(l) {
			t.Fatalf("Mirrored(%v) = %v, %d", l, m, e)
		}
		if again, e := pose.Mirrored(m); e != api.OK || !sameLeg(again, l) {
			t.Fatalf("Mirrored twice of %v = %v, %d", l, again, e)
		}
		for _, p := range posesOf(l) {
			at, other := endOf(l, p), endOf(m, p)
			moment, otherMoment := momentOf(l, p), momentOf(m, p)
			if other != way(-at.X, at.Y) || otherMoment != way(-moment.X, moment.Y) {
				t.Fatalf("the pose %v of %v ends at %v, and mirrored at %v", p, l, at, other)
			}
		}
	}
	for _, l := range wrongLegs() {
		if m, e := pose.Mirrored(l); len(m) != 0 || e != api.ErrInvalid {
			t.Errorf("Mirrored = %v, %d", m, e)
		}
	}
}

func TestP64MirroredTargets(t *testing.T) {
	for _, l := range legs(6, 5) {
		m, _ := pose.Mirrored(l)
		ends, _ := pose.Ends(l)
		for _, to := range append(ends, way(1, 7)) {
			other := way(-to.X, to.Y)
			p, e := pose.First(l, to)
			if q, f := pose.First(m, other); !slices.Equal(p, q) || e != f {
				t.Errorf("First(%v, %v) = %v, %d, and mirrored %v, %d", l, to, p, e, q, f)
			}
			n, e := pose.Count(l, to)
			if k, f := pose.Count(m, other); n != k || e != f {
				t.Errorf("Count(%v, %v) = %d, %d, and mirrored %d, %d", l, to, n, e, k, f)
			}
		}
	}
}
