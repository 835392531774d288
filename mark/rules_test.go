package mark_test

import (
	"math"
	"reflect"
	"slices"
	"strings"
	"testing"

	"armature/api"
	"armature/mark"
)

// calls makes every call of the package with some arguments, and returns the results of each.
func calls(n int, s string, f api.Field, a, b []api.Field, p []api.Part) map[string][]any {
	out := map[string][]any{
		"Word": {mark.Word(s)}, "ValidLabel": {mark.ValidLabel(a)}, "Has": {mark.Has(a, b)}, "Agree": {mark.Agree(a, b)},
		"Valid": {mark.Valid(p)}, "Format": {mark.Format(p)},
	}
	keep := func(name string, e api.Errno, results ...any) {
		out[name] = append(results, e)
	}
	sign, e := mark.Sign(n)
	keep("Sign", e, sign)
	m, e := mark.Mark(n)
	keep("Mark", e, m)
	k, e := mark.Number(s)
	keep("Number", e, k)
	near, e := mark.Near(s)
	keep("Near", e, near)
	joined, e := mark.Joined(a, b)
	keep("Joined", e, joined)
	both, e := mark.Both(a, b)
	keep("Both", e, both)
	i, j, key, e := mark.Clash(p)
	keep("Clash", e, i, j, key)
	data, e := mark.Data(p, n)
	keep("Data", e, data)
	whole, e := mark.Whole(p)
	keep("Whole", e, whole)
	missing, e := mark.Missing(p)
	keep("Missing", e, missing)
	below, e := mark.Below(p, n)
	keep("Below", e, below)
	at, e := mark.Find(p, s)
	keep("Find", e, at)
	taken, e := mark.Taken(p, n, s)
	keep("Taken", e, taken)
	written, e := mark.Written(p, n, f)
	keep("Written", e, written)
	read, line, e := mark.Parse(s)
	if e == api.ErrSyntax {
		line = 0 // the section says that it comes with this error
	}
	keep("Parse", e, read, line)
	return out
}

// zero reports whether a result is what it is beside an error.
func zero(x any) bool {
	v := reflect.ValueOf(x)
	return v.IsZero() || v.Kind() == reflect.Slice && v.Len() == 0
}

// each goes through arguments of all sorts, good ones and bad ones.
func each(use func(n int, s string, f api.Field, a, b []api.Field, p []api.Part)) {
	numbers := []int{math.MinInt, -1, 0, 1, 99, 100, api.MaxNumber, api.MaxNumber + 1, math.MaxInt}
	texts := []string{"", "whole", "jaw", "a", "123456-9", "123456-8", "A", "\xff\xfe", owlText, owlText + "x", strings.Repeat("a", 20), strings.Repeat("a", 1<<20), strings.Repeat("\n", 1<<16), strings.Repeat(" ", 1<<16)}
	labels := append(wrongLabels(), nil, fields("a", "1"), fields("a", "2"), many("a", 8), many("b", 8), many("a", 26))
	parts := append(wrongParts(), owl(), crowd(100), crowd(2000), []api.Part{{Label: many("a", 26)}})
	for i, n := range numbers {
		for k, s := range texts {
			a, b := labels[(i+k)%len(labels)], labels[(i*k+3)%len(labels)]
			for _, p := range parts {
				use(n, s, api.Field{Key: texts[(i+k)%len(texts)], Value: s}, a, b, p)
			}
		}
	}
}

func TestP11EndsWithoutPanic(t *testing.T) {
	each(func(n int, s string, f api.Field, a, b []api.Field, p []api.Part) {
		for name, results := range calls(n, s, f, a, b, p) {
			last := len(results) - 1
			e, failed := results[last].(api.Errno)
			if !failed || e == api.OK {
				continue
			}
			for _, x := range results[:last] {
				if !zero(x) {
					t.Fatalf("%s: %v with the error %d", name, x, e)
				}
			}
		}
	})
}

func TestP1SameCallSameResult(t *testing.T) {
	d := dice(20)
	for range 50 {
		p, a, b := d.parts(), d.label("abcdefgh", "01"), d.label("abcdefgh", "0")
		n := d.throw(len(p))
		first := calls(n, "whole", api.Field{Key: "e", Value: "1"}, a, b, p)
		for range 10 {
			if again := calls(n, "whole", api.Field{Key: "e", Value: "1"}, a, b, p); !reflect.DeepEqual(first, again) {
				t.Fatalf("%v, then %v", first, again)
			}
		}
	}
}

func TestP1NilIsEmpty(t *testing.T) {
	for _, p := range [][]api.Part{{{Sign: "whole", From: -1}}, {{Sign: "whole", From: -1, Label: []api.Field{}}}} {
		if s := mark.Format(p); s != "whole -1\n" {
			t.Errorf("Format = %q", s)
		}
		if l, e := mark.Data(p, 0); len(l) != 0 || e != api.OK {
			t.Errorf("Data = %v, %d", l, e)
		}
	}
	for _, l := range [][]api.Field{nil, {}} {
		if !mark.ValidLabel(l) || !mark.Has(l, nil) || !mark.Has(fields("a", "1"), l) || mark.Has(l, fields("a", "1")) || !mark.Agree(l, fields("a", "1")) {
			t.Error("the empty label")
		}
		if j, e := mark.Joined(l, []api.Field{}); len(j) != 0 || e != api.OK {
			t.Errorf("Joined = %v, %d", j, e)
		}
	}
	if mark.Valid([]api.Part{}) || mark.Format(nil) != "" {
		t.Error("no parts")
	}
}

// spare puts a label at the beginning of longer memory.
func spare(l []api.Field) []api.Field {
	long := slices.Concat(l, fields("spare", "1", "spare", "2"))
	return long[:len(l)]
}

// spareParts does so with parts and all their labels.
func spareParts(p []api.Part) []api.Part {
	long := append(deep(p), part("spare", 7), part("spare", 8))
	for i := range long {
		long[i].Label = spare(long[i].Label)
	}
	return long[:len(p)]
}

// memory copies all of a slice's memory, beyond its length too.
func memory(p []api.Part) []api.Part {
	q := slices.Clone(p[:cap(p)])
	for i := range q {
		q[i].Label = slices.Clone(q[i].Label[:cap(q[i].Label)])
	}
	return q
}

// spoil writes over all memory of a result.
func spoil(x any) {
	switch l := x.(type) {
	case []int:
		for i := range l[:cap(l)] {
			l[:cap(l)][i] = -7
		}
	case []api.Field:
		for i := range l[:cap(l)] {
			l[:cap(l)][i] = api.Field{Key: "spoilt", Value: "spoilt"}
		}
	case []api.Part:
		for i := range l[:cap(l)] {
			spoil(l[:cap(l)][i].Label)
			l[:cap(l)][i] = part("spoilt", 77)
		}
	}
}

func TestP11ArgumentsStay(t *testing.T) {
	d := dice(21)
	for range 200 {
		p := spareParts(d.parts())
		q := []api.Part{{Label: spare(d.label("abcdefgh", "0"))}, {Label: spare(d.label("abcdefgh", "01"))}}
		before, before2 := memory(p), memory(q)
		use := func() map[string][]any {
			return calls(d.throw(len(p)), "new", api.Field{Key: "e", Value: "1"}, q[0].Label, q[1].Label, p)
		}
		for _, results := range use() {
			for _, x := range results {
				spoil(x)
			}
		}
		if !same(before, memory(p)) || !same(before2, memory(q)) {
			t.Fatalf("%v became %v, or %v became %v", before, memory(p), before2, memory(q))
		}
	}
}

func TestP11ResultsAreNew(t *testing.T) {
	p := spareParts(owl())
	a, b := spare(fields("a", "1")), spare(fields("a", "1", "b", "2"))
	use := func() map[string][]any { return calls(2, "new", api.Field{Key: "side", Value: "left"}, a, b, p) }
	first, second := use(), use()
	spoil(p)
	spoil(a)
	spoil(b)
	for name, results := range second {
		for _, x := range results {
			spoil(x)
		}
		delete(second, name)
	}
	if want := calls(2, "new", api.Field{Key: "side", Value: "left"}, fields("a", "1"), fields("a", "1", "b", "2"), owl()); !reflect.DeepEqual(first, want) {
		t.Errorf("%v; want %v", first, want)
	}
}

func TestP11LabelsShareNothing(t *testing.T) {
	taken, _ := mark.Taken(owl(), 1, "claw")
	written, _ := mark.Written(owl(), 3, api.Field{Key: "kind", Value: "owl"})
	parsed, _, _ := mark.Parse(owlText)
	for _, p := range [][]api.Part{taken, written, parsed} {
		for i := range p {
			want := deep(p)
			spoil(p[i].Label)
			for j := range p {
				if j != i && !slices.Equal(p[j].Label, want[j].Label) {
					t.Errorf("label %d of %v changed with label %d", j, want, i)
				}
			}
			p[i].Label = want[i].Label
		}
	}
}
