package mark_test

import (
	"strconv"
	"strings"
	"testing"

	"armature/api"
	"armature/mark"
)

const owlText = "whole -1 kind=owl\nskin 0 kind=owl state=dry\nskull 0 state=dry\njaw 2 side=left\n"

func TestP16Format(t *testing.T) {
	if s := mark.Format(owl()); s != owlText {
		t.Errorf("Format = %q", s)
	}
	if s := mark.Format(crowd(1)); s != "pa -1\n" {
		t.Errorf("Format = %q", s)
	}
	for _, p := range wrongParts() {
		if s := mark.Format(p); s != "" {
			t.Errorf("Format(%v) = %q", p, s)
		}
	}
}

// greatest is as many parts, fields and letters as there may be.
func greatest() []api.Part {
	var p []api.Part
	for i := range api.MaxParts {
		x := api.Part{Sign: strings.Repeat("s", 18) + strconv.Itoa(i/10) + strconv.Itoa(i%10), From: i - 1}
		for k := range api.MaxFields {
			x.Label = append(x.Label, api.Field{Key: strings.Repeat("k", 19) + strconv.Itoa(k), Value: strings.Repeat("v", 20)})
		}
		p = append(p, x)
	}
	return p
}

func TestP16RoundTrip(t *testing.T) {
	all := [][]api.Part{owl(), crowd(1), crowd(100), greatest()}
	d := dice(19)
	for range 500 {
		all = append(all, d.parts())
	}
	for _, p := range all {
		q, line, e := mark.Parse(mark.Format(p))
		if e != api.OK || line != 0 || !same(p, q) {
			t.Fatalf("Parse(Format(%v)) = %v, %d, %d", p, q, line, e)
		}
	}
}

func TestP16Syntax(t *testing.T) {
	long := strings.Repeat("x", 21)
	for _, c := range []struct {
		s    string
		line int
	}{
		{"", 0}, {"\n", 0}, {"whole -1", 0}, {"whole\n", 0}, {"-1\n", 0}, {" -1\n", 0}, {"whole \n", 0}, {"whole  -1\n", 0}, {" whole -1\n", 0}, {"whole -1 \n", 0},
		{"whole -01\n", 0}, {"whole --1\n", 0}, {"whole 0\n", 0}, {"whole -0\n", 0}, {"whole 1\n", 0}, {"whole x\n", 0}, {"Whole -1\n", 0}, {long + " -1\n", 0},
		{"whole -1 a\n", 0}, {"whole -1 a=\n", 0}, {"whole -1 =1\n", 0}, {"whole -1 =\n", 0}, {"whole -1 a=b=c\n", 0}, {"whole -1 a==b\n", 0}, {"whole -1 a=1  b=1\n", 0},
		{"whole -1 b=1 a=1\n", 0}, {"whole -1 a=1 a=1\n", 0}, {"whole -1 A=1\n", 0}, {"whole -1 a=" + long + "\n", 0}, {"whole -1\ta=1\n", 0}, {"whole -1\r\n", 0}, {"whole -1 a=é\n", 0},
		{"whole -1 a=1 b=1 c=1 d=1 e=1 f=1 g=1 h=1 i=1\n", 0},
		{"whole -1\n\n", 1}, {"whole -1\nskin 0", 1}, {"whole -1\nskin", 1}, {"whole -1\nskin 1\n", 1}, {"whole -1\nskin -1\n", 1}, {"whole -1\nskin 00\n", 1}, {"whole -1\nskin -0\n", 1}, {"whole -1\nskin +0\n", 1},
		{"whole -1\nskin 99999999999999999999\n", 1}, {"whole -1\nwhole 0\n", 1}, {"whole -1\nskin 0\nskin 1\n", 2}, {"whole -1\nskin 0\nclaw 2\njaw x\n", 2}, {"whole -1\nskin 0\nclaw 1\nwhole -1\n", 3},
		{mark.Format(crowd(100)) + "more 0\n", 100}, {mark.Format(crowd(100)) + "\n", 100}, {mark.Format(crowd(100)) + "x", 100},
	} {
		if p, line, e := mark.Parse(c.s); len(p) != 0 || line != c.line || e != api.ErrSyntax {
			t.Errorf("Parse(%q) = %v, %d, %d", c.s, p, line, e)
		}
	}
}

func TestP16Long(t *testing.T) {
	for _, c := range []struct {
		s    string
		line int
		e    api.Errno
	}{
		{strings.Repeat("x", api.MaxText), 0, api.ErrSyntax},
		{strings.Repeat("x", api.MaxText+1), 0, api.ErrLong},
		{owlText + strings.Repeat("x", api.MaxText-len(owlText)), 4, api.ErrSyntax},
		{owlText + strings.Repeat("x", api.MaxText-len(owlText)+1), 0, api.ErrLong},
		{strings.Repeat("\n", api.MaxText+1), 0, api.ErrLong},
	} {
		if p, line, e := mark.Parse(c.s); len(p) != 0 || line != c.line || e != c.e {
			t.Errorf("Parse of %d bytes = %v, %d, %d", len(c.s), p, line, e)
		}
	}
}

func TestP16Beginnings(t *testing.T) {
	for n := range len(owlText) + 1 {
		s := owlText[:n]
		lines := strings.Count(s, "\n")
		p, line, e := mark.Parse(s)
		if strings.HasSuffix(s, "\n") {
			if e != api.OK || line != 0 || !same(p, owl()[:lines]) {
				t.Errorf("Parse(%q) = %v, %d, %d", s, p, line, e)
			}
		} else if e != api.ErrSyntax || line != lines || len(p) != 0 {
			t.Errorf("Parse(%q) = %v, %d, %d", s, p, line, e)
		}
	}
}

func TestP16JustSuchTexts(t *testing.T) {
	for i := range owlText {
		for b := range 128 {
			s := owlText[:i] + string(rune(b)) + owlText[i+1:]
			p, line, e := mark.Parse(s)
			if e == api.OK {
				if mark.Format(p) != s || line != 0 {
					t.Fatalf("Parse(%q) = %v", s, p)
				}
				continue
			}
			// The lines before the wrong one are a text; with it they are none.
			before := strings.Join(strings.SplitAfter(s, "\n")[:line], "")
			with := strings.Join(strings.SplitAfter(s, "\n")[:line+1], "")
			_, _, e1 := mark.Parse(before)
			_, line2, e2 := mark.Parse(with)
			if e != api.ErrSyntax || len(p) != 0 || line > 0 && e1 != api.OK || e2 != api.ErrSyntax || line2 != line {
				t.Fatalf("Parse(%q) = %v, %d, %d", s, p, line, e)
			}
		}
	}
}
