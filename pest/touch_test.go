package pest_test

import (
	"math"
	"slices"
	"testing"

	"armature/api"
	"armature/pest"
)

const everything = math.MaxUint64

// chain is a chain of touches by which poison on the thing 0 comes to each person and each other thing.
func chain() []api.Touch {
	var l []api.Touch
	for i := range 64 {
		l = append(l, api.Touch{Who: i, What: i})
		if i < 63 {
			l = append(l, api.Touch{Who: i, What: i + 1})
		}
	}
	return l
}

func TestP85Tainted(t *testing.T) {
	for _, c := range []struct {
		l                 []api.Touch
		things, who, what uint64
	}{
		{touches(0, 1, 0, 2, 1, 2, 1, 3, 0, 3), 2, 3, 14}, {nil, 0, 0, 0}, {nil, 5, 0, 5}, {nil, everything, 0, everything}, {touches(0, 0), 0, 0, 0}, {touches(5, 0), 1, 32, 1}, {touches(5, 0), 2, 0, 2}, {touches(5, 0, 5, 3), 1, 32, 9}, {touches(63, 63), 1 << 63, 1 << 63, 1 << 63}, {touches(63, 0, 63, 63, 0, 63), 1, 1<<63 | 1, 1<<63 | 1},
		// What was touched before the hands had poison stays clean, and so do the hands that touched it.
		{touches(5, 3, 5, 0), 1, 32, 1}, {touches(6, 3, 5, 0, 5, 3), 1, 32, 9}, {touches(6, 3, 5, 0, 5, 3, 6, 3), 1, 96, 9},
		// A person and a thing of the same number are two.
		{touches(3, 4), 1 << 3, 0, 8}, {touches(3, 3, 4, 3), 1 << 4, 0, 16}, {chain(), 1, everything, everything}, {chain(), 1 << 63, 1<<63 | 1<<62, 1 << 63}, {slices.Repeat(touches(2, 1), 200), 2, 4, 2},
	} {
		if who, what, e := pest.Tainted(c.l, c.things); e != api.OK || who != c.who || what != c.what {
			t.Errorf("Tainted(%v) = %d, %d, %d", c, who, what, e)
		}
	}
}

// TestP85TaintedAll compares with a second account, and checks that no further touch takes poison away.
func TestP85TaintedAll(t *testing.T) {
	d := dice(31)
	for range 400 {
		l, things := d.touches(100, 20)
		var who, what uint64
		for i := range len(l) + 1 {
			people, all := taintedOf(l[:i], things)
			w, h, e := pest.Tainted(l[:i], things)
			if e != api.OK || w != bits(people) || h != bits(all) {
				t.Fatalf("Tainted(%v, %d) = %d, %d, %d; want %v, %v", l[:i], things, w, h, e, people, all)
			}
			if w&who != who || h&what != what {
				t.Fatalf("Tainted(%v, %d) = %d, %d after %d, %d", l[:i], things, w, h, who, what)
			}
			who, what = w, h
		}
	}
}

func TestP85Cause(t *testing.T) {
	l := touches(0, 1, 0, 2, 1, 2, 1, 3, 0, 3)
	var long []int
	for i := range 126 {
		long = append(long, i)
	}
	for _, c := range []struct {
		l      []api.Touch
		things uint64
		thing  int
		want   []int
	}{
		{l, 2, 1, nil}, {l, 2, 2, []int{0, 1}}, {l, 2, 3, []int{0, 4}}, {l[:4], 2, 3, []int{0, 1, 2, 3}}, {nil, everything, 63, nil}, {chain(), 1, 63, long}, {chain(), 1, 1, []int{0, 1}}, {chain(), 1, 0, nil},
		// Of several lists of the fewest touches the first one, number by number.
		{touches(0, 1, 0, 1, 0, 2, 0, 2), 2, 2, []int{0, 2}}, {touches(1, 1, 0, 1, 0, 2, 1, 2), 2, 2, []int{0, 3}}, {touches(0, 1, 1, 1, 1, 2, 0, 2), 2, 2, []int{0, 3}}, {touches(5, 4, 0, 1, 0, 2, 5, 2), 18, 2, []int{0, 3}}, {touches(0, 1, 1, 2, 0, 3, 1, 3), 6, 3, []int{0, 2}}, {touches(0, 1, 1, 1, 1, 2, 0, 2, 3, 2, 3, 4), 2, 4, []int{0, 3, 4, 5}},
		// Fewer touches come before earlier ones.
		{touches(0, 1, 0, 2, 1, 2, 1, 3, 4, 1, 4, 3), 2, 3, []int{4, 5}}, {touches(0, 1, 0, 2, 1, 2, 1, 3, 4, 5, 4, 3), 34, 3, []int{4, 5}},
		// A thing that gets poison later at first may get it sooner from another one.
		{touches(0, 1, 0, 2, 3, 2, 4, 1, 4, 2, 3, 5), 2, 5, []int{0, 1, 2, 5}}, {touches(7, 1, 7, 2, 7, 3), 2, 3, []int{0, 2}},
	} {
		if got, e := pest.Cause(c.l, c.things, c.thing); e != api.OK || !slices.Equal(got, c.want) {
			t.Errorf("Cause(%v) = %v, %d", c, got, e)
		}
	}
	for _, c := range []struct {
		l      []api.Touch
		things uint64
		thing  int
	}{{l, 2, 4}, {l, 0, 1}, {nil, 0, 0}, {nil, 2, 2}, {touches(0, 2, 0, 1), 2, 2}, {touches(2, 1), 2, 2}, {chain(), 2, 0}, {chain(), everything - 1<<63 - 1<<62, 62 + 1}} {
		got, e := pest.Cause(c.l, c.things, c.thing)
		_, all := taintedOf(c.l, c.things)
		if all[c.thing] == (e == api.ErrNone) || e != api.OK && len(got) > 0 {
			t.Errorf("Cause(%v) = %v, %d", c, got, e)
		}
	}
}

// TestP85CauseAll compares with all lists of few touches.
func TestP85CauseAll(t *testing.T) {
	var count [11]int
	d := dice(32)
	for range 400 {
		l, things := d.touches(10, 5)
		for thing := range 6 {
			want, ok := causeOf(l, things, thing)
			got, e := pest.Cause(l, things, thing)
			if ok && (e != api.OK || !slices.Equal(got, want)) || !ok && (e != api.ErrNone || len(got) > 0) {
				t.Fatalf("Cause(%v, %d, %d) = %v, %d; want %v, %t", l, things, thing, got, e, want, ok)
			}
			if ok {
				count[len(want)]++
			}
		}
	}
	if count[0] == 0 || count[2] < 50 || count[4] < 20 || count[6] == 0 {
		t.Errorf("causes of these lengths: %v", count)
	}
}

// TestP85CauseAlone compares with a second account of many touches, and checks that a cause is enough and that each of its touches is needed.
func TestP85CauseAlone(t *testing.T) {
	long := 0
	d := dice(33)
	for range 300 {
		l, things := d.touches(200, 64)
		if len(l) > 3 && d.throw(2) == 0 {
			things &= 1 << l[d.throw(3)].What
		}
		for thing := range 64 {
			want, ok := causeBack(l, things, thing)
			got, e := pest.Cause(l, things, thing)
			if ok && (e != api.OK || !slices.Equal(got, want)) || !ok && (e != api.ErrNone || len(got) > 0) {
				t.Fatalf("Cause(%v, %d, %d) = %v, %d; want %v, %t", l, things, thing, got, e, want, ok)
			}
			if !ok {
				continue
			}
			if _, all := taintedOf(picked(l, got), things); !all[thing] {
				t.Fatalf("Cause(%v, %d, %d) = %v, which is not enough", l, things, thing, got)
			}
			for i := range got {
				if _, all := taintedOf(picked(l, slices.Delete(slices.Clone(got), i, i+1)), things); all[thing] {
					t.Fatalf("Cause(%v, %d, %d) = %v, which is too much", l, things, thing, got)
				}
			}
			long = max(long, len(got))
		}
	}
	if long < 6 {
		t.Errorf("the longest cause has %d touches", long)
	}
}

func TestP85Errors(t *testing.T) {
	checkCause := func(l []api.Touch, thing int) {
		t.Helper()
		if got, e := pest.Cause(l, everything, thing); len(got) > 0 || e != api.ErrRange {
			t.Errorf("Cause(%v, %d) = %v, %d", l, thing, got, e)
		}
	}
	check := func(l []api.Touch) {
		t.Helper()
		if who, what, e := pest.Tainted(l, everything); who != 0 || what != 0 || e != api.ErrRange {
			t.Errorf("Tainted(%v) = %d, %d, %d", l, who, what, e)
		}
		checkCause(l, 0)
		checkCause(l, 99)
	}
	for _, n := range wrongUpTo(63) {
		for _, l := range [][]api.Touch{touches(n, 0), touches(0, n), touches(n, n), touches(1, 2, n, 0), touches(0, n, 1, 2)} {
			check(l)
		}
		checkCause(nil, n)
		checkCause(touches(0, 1), n)
	}
	for _, n := range []int{201, 1 << 12} {
		check(slices.Repeat(touches(0, 0), n))
	}
	if who, what, e := pest.Tainted(slices.Repeat(touches(0, 0), 200), 1); who != 1 || what != 1 || e != api.OK {
		t.Errorf("Tainted by 200 touches = %d, %d, %d", who, what, e)
	}
}
