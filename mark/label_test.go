package mark_test

import (
	"slices"
	"strings"
	"testing"

	"armature/api"
	"armature/mark"
)

func TestP13Word(t *testing.T) {
	for _, s := range []string{"a", "z", "0", "9", "owl", "a0b9", "07", strings.Repeat("z", 20)} {
		if !mark.Word(s) {
			t.Errorf("Word(%q) is false", s)
		}
	}
	for _, s := range []string{"", "A", "Z", "aB", "a b", " a", "a ", "a-b", "a_b", "a=b", "é", "aé", "\xff", "a\n", "\x00", "`", "{", "/", ":", strings.Repeat("z", 21), strings.Repeat("z", 1000)} {
		if mark.Word(s) {
			t.Errorf("Word(%q) is true", s)
		}
	}
}

func TestP13ValidLabel(t *testing.T) {
	long := strings.Repeat("k", 20)
	for _, l := range [][]api.Field{nil, {}, fields("a", "1"), fields("a", "1", "b", "1"), fields("a", "1", "aa", "1"), fields("9", "1", "a", "1"), fields(long, long), many("a", 8)} {
		if !mark.ValidLabel(l) {
			t.Errorf("ValidLabel(%v) is false", l)
		}
	}
	for _, l := range wrongLabels() {
		if mark.ValidLabel(l) {
			t.Errorf("ValidLabel(%v) is true", l)
		}
	}
}

func TestP13WrongLabels(t *testing.T) {
	for _, l := range wrongLabels() {
		for _, c := range [][2][]api.Field{{l, nil}, {nil, l}, {l, l}, {l, many("x", 8)}, {fields("a", "other"), l}} {
			if mark.Has(c[0], c[1]) || mark.Agree(c[0], c[1]) {
				t.Errorf("Has or Agree of %v is true", c)
			}
			if k, e := mark.Joined(c[0], c[1]); len(k) != 0 || e != api.ErrInvalid {
				t.Errorf("Joined of %v = %v, %d", c, k, e)
			}
			if k, e := mark.Both(c[0], c[1]); len(k) != 0 || e != api.ErrInvalid {
				t.Errorf("Both of %v = %v, %d", c, k, e)
			}
		}
	}
}

// everyLabel makes all labels of three keys and two values.
func everyLabel() [][]api.Field {
	labels := [][]api.Field{nil}
	for _, key := range []string{"a", "b", "c"} {
		for _, l := range slices.Clone(labels) {
			for _, value := range []string{"0", "1"} {
				labels = append(labels, append(slices.Clone(l), api.Field{Key: key, Value: value}))
			}
		}
	}
	return labels
}

func TestP13HasAndAgree(t *testing.T) {
	for _, a := range everyLabel() {
		for _, b := range everyLabel() {
			has := !slices.ContainsFunc(b, func(f api.Field) bool { return !slices.Contains(a, f) })
			if mark.Has(a, b) != has {
				t.Errorf("Has(%v, %v) is %v", a, b, !has)
			}
			if mark.Agree(a, b) == clashes(a, b) {
				t.Errorf("Agree(%v, %v) is %v", a, b, clashes(a, b))
			}
		}
	}
}

func TestP13Joined(t *testing.T) {
	for _, a := range everyLabel() {
		for _, b := range everyLabel() {
			j, e := mark.Joined(a, b)
			k, e2 := mark.Joined(b, a)
			if !slices.Equal(j, k) || e != e2 {
				t.Errorf("Joined of %v and %v depends on the order", a, b)
			}
			if clashes(a, b) {
				if len(j) != 0 || e != api.ErrData {
					t.Errorf("Joined(%v, %v) = %v, %d", a, b, j, e)
				}
				continue
			}
			if e != api.OK || !mark.ValidLabel(j) || !mark.Has(j, a) || !mark.Has(j, b) {
				t.Errorf("Joined(%v, %v) = %v, %d", a, b, j, e)
			}
			for _, l := range everyLabel() {
				if mark.Has(l, a) && mark.Has(l, b) && !mark.Has(l, j) {
					t.Errorf("%v has %v and %v, but not %v", l, a, b, j)
				}
			}
		}
	}
}

func TestP13Both(t *testing.T) {
	for _, a := range everyLabel() {
		for _, b := range everyLabel() {
			both, e := mark.Both(a, b)
			k, _ := mark.Both(b, a)
			if e != api.OK || !mark.ValidLabel(both) || !mark.Has(a, both) || !mark.Has(b, both) || !slices.Equal(both, k) {
				t.Errorf("Both(%v, %v) = %v, %d", a, b, both, e)
			}
			for _, l := range everyLabel() {
				if mark.Has(a, l) && mark.Has(b, l) && !mark.Has(both, l) {
					t.Errorf("%v and %v have %v, but %v does not", a, b, l, both)
				}
			}
		}
	}
}

func TestP13JoinedLimit(t *testing.T) {
	eight := many("a", 8)
	for _, c := range []struct {
		a, b []api.Field
		n    int
		e    api.Errno
	}{
		{many("a", 4), many("b", 4), 8, api.OK},
		{many("a", 4), many("b", 5), 0, api.ErrLimit},
		{eight, eight, 8, api.OK},
		{eight, nil, 8, api.OK},
		{eight, fields("b", "1"), 0, api.ErrLimit},
		{eight, many("b", 8), 0, api.ErrLimit},
		{eight, fields("aa", "2", "b", "1"), 0, api.ErrData},
	} {
		if l, e := mark.Joined(c.a, c.b); len(l) != c.n || e != c.e {
			t.Errorf("Joined(%v, %v) = %v, %d", c.a, c.b, l, e)
		}
	}
}
