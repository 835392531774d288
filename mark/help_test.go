package mark_test

import (
	"slices"
	"strings"

	"armature/api"
	"armature/mark"
)

// fields makes a label of keys and values.
func fields(l ...string) []api.Field {
	var out []api.Field
	for i := 0; i+1 < len(l); i += 2 {
		out = append(out, api.Field{Key: l[i], Value: l[i+1]})
	}
	return out
}

// many makes a label with n fields whose keys begin with a letter.
func many(letter string, n int) []api.Field {
	var out []api.Field
	for i := range n {
		out = append(out, api.Field{Key: letter + string(rune('a'+i)), Value: "1"})
	}
	return out
}

func part(sign string, from int, label ...string) api.Part {
	return api.Part{Sign: sign, From: from, Label: fields(label...)}
}

// owl is a whole with a skin and a skull of it, and a jaw of the skull.
func owl() []api.Part {
	return []api.Part{
		part("whole", -1, "kind", "owl"),
		part("skin", 0, "kind", "owl", "state", "dry"),
		part("skull", 0, "state", "dry"),
		part("jaw", 2, "side", "left"),
	}
}

// crowd is n parts without fields, each taken from the one before it.
func crowd(n int) []api.Part {
	var p []api.Part
	for i := range n {
		p = append(p, part("p"+strings.Repeat("x", i/36)+string("abcdefghijklmnopqrstuvwxyz0123456789"[i%36]), i-1))
	}
	return p
}

// dice throws numbers that are the same in every run.
type dice uint64

func (d *dice) throw(n int) int {
	*d = *d*6364136223846793005 + 1442695040888963407
	return int(uint64(*d) >> 33 % uint64(n))
}

func (d *dice) label(keys, values string) []api.Field {
	var l []api.Field
	for i := range keys {
		if k := d.throw(2 * len(values)); k < len(values) {
			l = append(l, api.Field{Key: keys[i : i+1], Value: values[k : k+1]})
		}
	}
	return l
}

func (d *dice) parts() []api.Part {
	values := []string{"0", "01"}[d.throw(2)]
	p := []api.Part{{Sign: "whole", From: -1, Label: d.label("abcd", values)}}
	for i := range d.throw(8) {
		p = append(p, api.Part{Sign: string(rune('a' + i)), From: d.throw(len(p)), Label: d.label("abcd", values)})
	}
	return p
}

func same(p, q []api.Part) bool {
	return slices.EqualFunc(p, q, func(a, b api.Part) bool {
		return a.Sign == b.Sign && a.From == b.From && slices.Equal(a.Label, b.Label)
	})
}

func deep(p []api.Part) []api.Part {
	var q []api.Part
	for _, x := range p {
		x.Label = append([]api.Field(nil), x.Label...)
		q = append(q, x)
	}
	return q
}

// consistent asks for each two labels anew.
func consistent(p []api.Part) bool {
	for _, a := range p {
		for _, b := range p {
			if clashes(a.Label, b.Label) {
				return false
			}
		}
	}
	return true
}

func clashes(a, b []api.Field) bool {
	for _, f := range a {
		for _, g := range b {
			if f.Key == g.Key && f.Value != g.Value {
				return true
			}
		}
	}
	return false
}

// under reports whether j was taken from i, directly or not.
func under(p []api.Part, i, j int) bool {
	for j = p[j].From; j >= 0; j = p[j].From {
		if j == i {
			return true
		}
	}
	return false
}

// wrongLabels are labels that are not valid.
func wrongLabels() [][]api.Field {
	return [][]api.Field{
		fields("b", "1", "a", "1"),
		fields("a", "1", "a", "1"),
		fields("A", "1"),
		fields("a", "B"),
		fields("", "1"),
		fields("a", ""),
		fields("a b", "1"),
		fields("a", "é"),
		fields(strings.Repeat("a", 21), "1"),
		fields("a", strings.Repeat("1", 21)),
		many("a", 9),
	}
}

// wrongParts are parts that are not valid.
func wrongParts() [][]api.Part {
	l := [][]api.Part{
		nil,
		crowd(101),
		{part("whole", 0)},
		{part("whole", -2)},
		{part("whole", 1)},
		{part("whole", -1), part("skin", -1)},
		{part("whole", -1), part("skin", 1)},
		{part("whole", -1), part("skin", 2)},
		{part("whole", -1), part("whole", 0)},
		{part("whole", -1), part("a", 0), part("b", 0), part("a", 1)},
		{part("Whole", -1)},
		{part("", -1)},
		{part("whole", -1), part("a=b", 0)},
		{part(strings.Repeat("w", 21), -1)},
	}
	for _, label := range wrongLabels() {
		l = append(l, []api.Part{part("whole", -1), {Sign: "skin", Label: label}})
	}
	return l
}

func mustMark(n int) string {
	s, e := mark.Mark(n)
	if e != api.OK {
		panic("no mark")
	}
	return s
}
