package mark_test

import (
	"math"
	"slices"
	"strings"
	"testing"

	"armature/api"
	"armature/mark"
)

func TestP14Valid(t *testing.T) {
	full := []api.Part{{Sign: strings.Repeat("w", 20), From: -1, Label: many("a", 8)}}
	for _, p := range [][]api.Part{owl(), full, crowd(1), crowd(100), {part("whole", -1), part("a", 0), part("b", 1), part("c", 0)}} {
		if !mark.Valid(p) {
			t.Errorf("Valid(%v) is false", p)
		}
	}
	for _, p := range wrongParts() {
		if mark.Valid(p) {
			t.Errorf("Valid(%v) is true", p)
		}
	}
}

func TestP14WrongParts(t *testing.T) {
	for _, p := range wrongParts() {
		for _, i := range []int{0, -1, 1000} {
			_, e1 := mark.Data(p, i)
			_, e2 := mark.Below(p, i)
			_, e3 := mark.Taken(p, i, "skin")
			_, e4 := mark.Written(p, i, api.Field{Key: "a", Value: "1"})
			if e1 != api.ErrInvalid || e2 != api.ErrInvalid || e3 != api.ErrInvalid || e4 != api.ErrInvalid {
				t.Errorf("%v: Data %d, Below %d, Taken %d, Written %d", p, e1, e2, e3, e4)
			}
		}
		_, _, _, e1 := mark.Clash(p)
		_, e2 := mark.Whole(p)
		_, e3 := mark.Missing(p)
		_, e4 := mark.Find(p, "whole")
		if e1 != api.ErrInvalid || e2 != api.ErrInvalid || e3 != api.ErrInvalid || e4 != api.ErrInvalid {
			t.Errorf("%v: Clash %d, Whole %d, Missing %d, Find %d", p, e1, e2, e3, e4)
		}
	}
}

func TestP14NoSuchPart(t *testing.T) {
	clashing := append(owl(), part("claw", 0, "kind", "hawk"))
	for _, p := range [][]api.Part{owl(), crowd(1), crowd(100), clashing} {
		for _, i := range []int{-1, len(p), len(p) + 1, math.MinInt, math.MaxInt} {
			_, e1 := mark.Data(p, i)
			_, e2 := mark.Below(p, i)
			_, e3 := mark.Taken(p, i, p[0].Sign)
			_, e4 := mark.Written(p, i, api.Field{Key: "kind", Value: "bat"})
			if e1 != api.ErrRange || e2 != api.ErrRange || e3 != api.ErrRange || e4 != api.ErrRange {
				t.Errorf("part %d of %d: Data %d, Below %d, Taken %d, Written %d", i, len(p), e1, e2, e3, e4)
			}
		}
	}
}

func TestP14Data(t *testing.T) {
	p := owl()
	for i, want := range [][]api.Field{
		fields("kind", "owl", "side", "left", "state", "dry"),
		fields("kind", "owl", "state", "dry"),
		fields("kind", "owl", "side", "left", "state", "dry"),
		fields("kind", "owl", "side", "left", "state", "dry"),
	} {
		if l, e := mark.Data(p, i); e != api.OK || !slices.Equal(l, want) {
			t.Errorf("Data of %d = %v, %d", i, l, e)
		}
	}
}

func TestP14DataOfBrothers(t *testing.T) {
	p := []api.Part{part("whole", -1), part("skin", 0, "state", "dry"), part("skull", 0, "state", "wet"), part("jaw", 2, "tag", "7")}
	for i, want := range [][]api.Field{nil, fields("state", "dry"), fields("state", "wet", "tag", "7"), fields("state", "wet", "tag", "7")} {
		l, e := mark.Data(p, i)
		if !slices.Equal(l, want) || (e == api.OK) != (i > 0) || i == 0 && e != api.ErrData {
			t.Errorf("Data of %d = %v, %d", i, l, e)
		}
	}
	if l, e := mark.Whole(p); len(l) != 0 || e != api.ErrData {
		t.Errorf("Whole = %v, %d", l, e)
	}
}

func TestP14DataOfTwoBelow(t *testing.T) {
	// The two that clash are both below the part, and neither above the other.
	p := []api.Part{part("whole", -1), part("leg", 0), part("shin", 1, "side", "left"), part("foot", 1, "side", "right"), part("wing", 0)}
	for i, want := range []api.Errno{api.ErrData, api.ErrData, api.OK, api.OK, api.OK} {
		if _, e := mark.Data(p, i); e != want {
			t.Errorf("Data of %d: %d", i, e)
		}
	}
}

func TestP14DataMoreThanALabel(t *testing.T) {
	p := []api.Part{{Sign: "whole", From: -1, Label: many("b", 8)}, {Sign: "skin", Label: many("a", 8)}, {Sign: "claw", From: 1, Label: many("c", 8)}}
	want := slices.Concat(many("a", 8), many("b", 8), many("c", 8))
	for i := range p {
		if l, e := mark.Data(p, i); e != api.OK || !slices.Equal(l, want) {
			t.Errorf("Data of %d = %v, %d", i, l, e)
		}
	}
}

// dataAnew gathers a part's data without the program.
func dataAnew(p []api.Part, i int) ([]api.Field, api.Errno) {
	var all []api.Field
	for j, x := range p {
		if j == i || under(p, i, j) || under(p, j, i) {
			all = append(all, x.Label...)
		}
	}
	slices.SortFunc(all, func(a, b api.Field) int { return strings.Compare(a.Key+"="+a.Value, b.Key+"="+b.Value) })
	all = slices.Compact(all)
	for k := range all {
		if k > 0 && all[k-1].Key == all[k].Key {
			return nil, api.ErrData
		}
	}
	return all, api.OK
}

func TestP14NeverParted(t *testing.T) {
	d := dice(14)
	for range 3000 {
		p := d.parts()
		whole, wholeError := mark.Whole(p)
		for i, x := range p {
			data, e := mark.Data(p, i)
			want, wantError := dataAnew(p, i)
			if e != wantError || !slices.Equal(data, want) {
				t.Fatalf("%v: Data of %d = %v, %d; want %v, %d", p, i, data, e, want, wantError)
			}
			if i == 0 && (wholeError != e || !slices.Equal(whole, data)) {
				t.Fatalf("%v: Whole = %v, %d", p, whole, wholeError)
			}
			if wholeError == api.OK && (e != api.OK || !mark.Has(whole, data)) {
				t.Fatalf("%v: data of %d are not among those of the whole", p, i)
			}
			if consistent(p) && !mark.Has(data, x.Label) {
				t.Fatalf("%v: label of %d is not among its data", p, i)
			}
		}
	}
}

func TestP14Missing(t *testing.T) {
	if l, e := mark.Missing(owl()); e != api.OK || !slices.Equal(l, []int{2, 3}) {
		t.Errorf("Missing = %v, %d", l, e)
	}
	p := []api.Part{part("whole", -1, "a", "1", "b", "1"), part("c", 0, "a", "1", "b", "2"), part("d", 0, "a", "1", "b", "1", "c", "1"), part("e", 2, "b", "1"), part("f", 2)}
	if l, e := mark.Missing(p); e != api.OK || !slices.Equal(l, []int{1, 3, 4}) {
		t.Errorf("Missing = %v, %d", l, e)
	}
	if l, e := mark.Missing(crowd(100)); e != api.OK || len(l) != 0 {
		t.Errorf("Missing of empty labels = %v, %d", l, e)
	}
}

func TestP14Below(t *testing.T) {
	for i, want := range [][]int{{1, 2, 3}, nil, {3}, nil} {
		if l, e := mark.Below(owl(), i); e != api.OK || !slices.Equal(l, want) {
			t.Errorf("Below %d = %v, %d", i, l, e)
		}
	}
	d := dice(15)
	for range 500 {
		p := d.parts()
		for i := range p {
			var want []int
			for j := range p {
				if under(p, i, j) {
					want = append(want, j)
				}
			}
			if l, e := mark.Below(p, i); e != api.OK || !slices.Equal(l, want) {
				t.Fatalf("%v: Below %d = %v, %d", p, i, l, e)
			}
		}
	}
}

func TestP14Find(t *testing.T) {
	for i, x := range owl() {
		if k, e := mark.Find(owl(), x.Sign); k != i || e != api.OK {
			t.Errorf("Find(%s) = %d, %d", x.Sign, k, e)
		}
	}
	for sign, want := range map[string]api.Errno{"claw": api.ErrName, "wholes": api.ErrName, "": api.ErrInvalid, "Skin": api.ErrInvalid, strings.Repeat("s", 21): api.ErrInvalid} {
		if k, e := mark.Find(owl(), sign); k != 0 || e != want {
			t.Errorf("Find(%q) = %d, %d", sign, k, e)
		}
	}
}

func TestP14Taken(t *testing.T) {
	d := dice(16)
	for range 1000 {
		p := d.parts()
		i := d.throw(len(p))
		q, e := mark.Taken(p, i, "new")
		want := append(deep(p), api.Part{Sign: "new", From: i, Label: p[i].Label})
		if e != api.OK || !same(q, want) || !mark.Valid(q) {
			t.Fatalf("Taken(%v, %d) = %v, %d", p, i, q, e)
		}
		for j := range p {
			before, e1 := mark.Data(p, j)
			after, e2 := mark.Data(q, j)
			if e1 != e2 || !slices.Equal(before, after) {
				t.Fatalf("%v: Taken from %d changes the data of %d", p, i, j)
			}
		}
	}
}

func TestP14TakenErrors(t *testing.T) {
	last := crowd(99)
	for _, c := range []struct {
		p    []api.Part
		i    int
		sign string
		e    api.Errno
	}{
		{owl(), 0, "", api.ErrInvalid},
		{owl(), 0, "Claw", api.ErrInvalid},
		{owl(), -1, "a=b", api.ErrInvalid},
		{crowd(100), 100, strings.Repeat("s", 21), api.ErrInvalid},
		{owl(), 4, "jaw", api.ErrRange},
		{crowd(100), -1, "new", api.ErrRange},
		{owl(), 3, "jaw", api.ErrDuplicate},
		{owl(), 3, "whole", api.ErrDuplicate},
		{crowd(100), 0, last[5].Sign, api.ErrDuplicate},
		{crowd(100), 0, "new", api.ErrLimit},
		{last, 98, "new", api.OK},
	} {
		q, e := mark.Taken(c.p, c.i, c.sign)
		if e != c.e || e != api.OK && len(q) != 0 || e == api.OK && len(q) != len(c.p)+1 {
			t.Errorf("Taken from %d of %d parts, %q: %d parts, %d", c.i, len(c.p), c.sign, len(q), e)
		}
	}
}

func TestP15Clash(t *testing.T) {
	for _, c := range []struct {
		p    []api.Part
		i, j int
		key  string
		e    api.Errno
	}{
		{owl(), 0, 0, "", api.ErrNone},
		{crowd(1), 0, 0, "", api.ErrNone},
		{[]api.Part{part("a", -1), part("b", 0, "k", "1"), part("c", 0, "k", "2"), part("d", 0, "k", "3")}, 1, 2, "k", api.OK},
		{[]api.Part{part("a", -1, "z", "1"), part("b", 0, "k", "1"), part("c", 0, "k", "2"), part("d", 0, "z", "3")}, 0, 3, "z", api.OK},
		{[]api.Part{part("a", -1, "k", "1", "m", "1", "z", "1"), part("b", 0, "k", "1", "m", "2", "z", "2")}, 0, 1, "m", api.OK},
		{[]api.Part{part("a", -1, "x", "1"), part("b", 0, "y", "1")}, 0, 0, "", api.ErrNone},
	} {
		if i, j, key, e := mark.Clash(c.p); i != c.i || j != c.j || key != c.key || e != c.e {
			t.Errorf("Clash(%v) = %d, %d, %q, %d", c.p, i, j, key, e)
		}
	}
}

// clashAnew finds the first clash without the program.
func clashAnew(p []api.Part) (int, int, string, api.Errno) {
	for i := range p {
		for j := i + 1; j < len(p); j++ {
			for _, f := range p[i].Label {
				if clashes([]api.Field{f}, p[j].Label) {
					return i, j, f.Key, api.OK
				}
			}
		}
	}
	return 0, 0, "", api.ErrNone
}

func TestP15ClashOfRandomParts(t *testing.T) {
	d := dice(17)
	for range 3000 {
		p := d.parts()
		i, j, key, e := mark.Clash(p)
		if i2, j2, key2, e2 := clashAnew(p); i != i2 || j != j2 || key != key2 || e != e2 {
			t.Fatalf("Clash(%v) = %d, %d, %q, %d", p, i, j, key, e)
		}
		if (e == api.ErrNone) != consistent(p) {
			t.Fatalf("Clash(%v): %d", p, e)
		}
	}
}

func TestP15Written(t *testing.T) {
	d := dice(18)
	for range 3000 {
		p := d.parts()
		i := d.throw(len(p))
		f := api.Field{Key: "abcde"[d.throw(4):][:1], Value: "012"[d.throw(3):][:1]}
		q, e := mark.Written(p, i, f)
		label, joinError := mark.Joined(p[i].Label, []api.Field{f})
		clash := joinError == api.ErrData || slices.ContainsFunc(p, func(x api.Part) bool { return clashes(label, x.Label) })
		if clash {
			if e != api.ErrData || len(q) != 0 {
				t.Fatalf("Written(%v, %d, %v) = %v, %d", p, i, f, q, e)
			}
			continue
		}
		want := deep(p)
		want[i].Label = label
		if e != api.OK || !same(q, want) || !mark.Valid(q) {
			t.Fatalf("Written(%v, %d, %v) = %v, %d", p, i, f, q, e)
		}
		if consistent(p) && !consistent(q) {
			t.Fatalf("Written(%v, %d, %v) = %v", p, i, f, q)
		}
	}
}

func TestP15WrittenErrors(t *testing.T) {
	p := []api.Part{part("whole", -1, "kind", "owl"), {Sign: "skin", Label: many("a", 8)}, part("claw", 0), part("odd", 0, "state", "dry"), part("even", 0, "state", "wet")}
	for _, c := range []struct {
		i          int
		key, value string
		e          api.Errno
	}{
		{0, "", "1", api.ErrInvalid},
		{0, "a", "", api.ErrInvalid},
		{0, "Kind", "owl", api.ErrInvalid},
		{0, "kind", "Owl", api.ErrInvalid},
		{9, strings.Repeat("k", 21), "1", api.ErrInvalid},
		{5, "kind", "hawk", api.ErrRange},
		{-1, "b", "1", api.ErrRange},
		{0, "kind", "hawk", api.ErrData}, // its own label
		{2, "kind", "hawk", api.ErrData}, // the whole's label
		{0, "aa", "2", api.ErrData},      // the label of a part of it
		{2, "aa", "2", api.ErrData},      // a brother's label
		{1, "kind", "hawk", api.ErrData}, // before the limit
		{1, "aa", "2", api.ErrData},
		{3, "b", "1", api.ErrData},       // what it had clashes with another part's
		{3, "state", "dry", api.ErrData}, // also if it has the field
		{1, "kind", "owl", api.ErrLimit},
		{1, "b", "1", api.ErrLimit},
		{1, "aa", "1", api.OK}, // it has the field
		{2, "kind", "owl", api.OK},
		{2, "b", "1", api.OK}, // that others clash does not matter
	} {
		q, e := mark.Written(p, c.i, api.Field{Key: c.key, Value: c.value})
		if e != c.e || e != api.OK && len(q) != 0 {
			t.Errorf("Written to %d, %s=%s: %v, %d", c.i, c.key, c.value, q, e)
		}
	}
	if q, e := mark.Written(p, 1, api.Field{Key: "aa", Value: "1"}); e != api.OK || !same(p, q) {
		t.Errorf("Written of what is there = %v, %d", q, e)
	}
}
