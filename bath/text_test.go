package bath_test

import (
	"slices"
	"strings"
	"testing"

	"armature/api"
	"armature/bath"
)

const listText = "1 1000\n2 1000000000\n3 70\n4 0\n5 1001\n6 5\n"

func list() []api.Step {
	return []api.Step{step(api.SWait, 1000), step(api.SWater, top), step(api.SSalt, 70), step(api.SAcid, 0), step(api.SLime, 1001), step(api.SPour, 5)}
}

func TestP36Format(t *testing.T) {
	if s := bath.Format(list()); s != listText {
		t.Errorf("Format = %q", s)
	}
	most := slices.Repeat([]api.Step{step(api.SLime, top)}, api.MaxSteps)
	if s := bath.Format(most); s != strings.Repeat("5 1000000000\n", 200) {
		t.Errorf("Format of 200 steps = %q", s)
	}
	if s := bath.Format(nil) + bath.Format([]api.Step{}); s != "" {
		t.Errorf("Format of no steps = %q", s)
	}
	for _, l := range wrongLists() {
		if s := bath.Format(l); s != "" {
			t.Errorf("Format(%v) = %q", l, s)
		}
	}
}

func TestP36RoundTrip(t *testing.T) {
	all := [][]api.Step{nil, {}, list(), slices.Repeat([]api.Step{step(api.SWater, top)}, api.MaxSteps), slices.Repeat([]api.Step{step(api.SWait, 0)}, api.MaxSteps)}
	d := dice(45)
	for range 1000 {
		all = append(all, d.steps(api.MaxSteps, 3*d.size()))
	}
	for _, l := range all {
		k, line, e := bath.Parse(bath.Format(l))
		if e != api.OK || line != 0 || !slices.Equal(k, l) {
			t.Fatalf("Parse(Format(%v)) = %v, %d, %d", l, k, line, e)
		}
	}
}

func TestP36Syntax(t *testing.T) {
	most := strings.Repeat("1 2\n", api.MaxSteps)
	for _, c := range []struct {
		s    string
		line int
	}{
		{"\n", 0}, {" ", 0}, {"1", 0}, {"1\n", 0}, {"1 \n", 0}, {" 2\n", 0}, {"1 2", 0}, {"12\n", 0}, {"1 2 3\n", 0}, {"1 2 \n", 0}, {" 1 2\n", 0}, {"1  2\n", 0}, {"1\t2\n", 0}, {"1 2\r\n", 0}, {"1,2\n", 0}, {"1\u00a02\n", 0}, {"1 2\x00\n", 0}, {"\n1 2\n", 0},
		{"01 2\n", 0}, {"1 02\n", 0}, {"1 00\n", 0}, {"+1 2\n", 0}, {"1 +2\n", 0}, {"1 -0\n", 0}, {"-1 2\n", 0}, {"1 -2\n", 0}, {"1 1_0\n", 0}, {"1 0x1\n", 0}, {"1 1e2\n", 0}, {"1 2.0\n", 0}, {"x 2\n", 0}, {"1 x\n", 0}, {"1 ٢\n", 0},
		{"0 2\n", 0}, {"7 1\n", 0}, {"1 1001\n", 0}, {"6 1001\n", 0}, {"2 1000000001\n", 0}, {"3 1000000001\n", 0}, {"4 1000000001\n", 0}, {"5 1000000001\n", 0}, {"2 99999999999999999999\n", 0}, {"99999999999999999999 2\n", 0}, {"18446744073709551617 2\n", 0}, {"1 18446744073709551617\n", 0},
		{"1 2\n\n", 1}, {"1 2\n7 1\n", 1}, {"1 2\n1 2", 1}, {"1 2\nx", 1}, {"1 2\nx\n1 2\ny\n", 1}, {listText + "6 5", 6}, {listText + " ", 6}, {"1 2\n6 1001\n0 0", 1},
		{most + "1 2\n", 200}, {most + "\n", 200}, {most + "x", 200}, {most + "1 2", 200}, {most + most, 200}, {"x\n" + most, 0}, {most[:len(most)-1], 199}, {most[4:] + "1 1001\n", 199},
	} {
		if l, line, e := bath.Parse(c.s); len(l) != 0 || line != c.line || e != api.ErrSyntax {
			t.Errorf("Parse(%q) = %v, %d, %d; want %d", c.s, l, line, e, c.line)
		}
	}
}

func TestP36Long(t *testing.T) {
	for _, c := range []struct {
		s    string
		line int
		e    api.Errno
	}{
		{strings.Repeat("x", api.MaxText), 0, api.ErrSyntax},
		{strings.Repeat("x", api.MaxText+1), 0, api.ErrLong},
		{listText + strings.Repeat(" ", api.MaxText-len(listText)), 6, api.ErrSyntax},
		{listText + strings.Repeat(" ", api.MaxText-len(listText)+1), 0, api.ErrLong},
		{strings.Repeat("1 2\n", api.MaxText/4), 200, api.ErrSyntax},
		{strings.Repeat("1 2\n", api.MaxText/4+1), 0, api.ErrLong},
		{strings.Repeat("\n", 1<<20), 0, api.ErrLong},
	} {
		if l, line, e := bath.Parse(c.s); len(l) != 0 || line != c.line || e != c.e {
			t.Errorf("Parse of %d bytes = %v, %d, %d", len(c.s), l, line, e)
		}
	}
}

func TestP36Beginnings(t *testing.T) {
	for n := range len(listText) + 1 {
		s := listText[:n]
		lines := strings.Count(s, "\n")
		l, line, e := bath.Parse(s)
		if s == "" || strings.HasSuffix(s, "\n") {
			if e != api.OK || line != 0 || !slices.Equal(l, list()[:lines]) {
				t.Errorf("Parse(%q) = %v, %d, %d", s, l, line, e)
			}
		} else if e != api.ErrSyntax || line != lines || len(l) != 0 {
			t.Errorf("Parse(%q) = %v, %d, %d", s, l, line, e)
		}
	}
}

func TestP36JustSuchTexts(t *testing.T) {
	for i := range listText {
		for b := range 256 {
			for _, s := range []string{listText[:i] + string([]byte{byte(b)}) + listText[i+1:], listText[:i] + string([]byte{byte(b)}) + listText[i:]} {
				l, line, e := bath.Parse(s)
				if e == api.OK && (bath.Format(l) != s || line != 0) || e != api.OK && (e != api.ErrSyntax || len(l) != 0) {
					t.Fatalf("Parse(%q) = %v, %d, %d", s, l, line, e)
				}
			}
		}
	}
}
