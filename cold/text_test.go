package cold_test

import (
	"slices"
	"strconv"
	"strings"
	"testing"

	"armature/api"
	"armature/cold"
)

const listText = "0 -1000\n7 1000\n8 0\n999 -5\n1000000 12\n"

func list() []api.Reading { return readings(0, -1000, 7, 1000, 8, 0, 999, -5, lastHour, 12) }

// fullText is the text of as many readings as there may be.
func fullText() string {
	var s strings.Builder
	for i := range 200 {
		s.WriteString(strconv.Itoa(i*5000) + " -1000\n")
	}
	return s.String()
}

func TestP46Format(t *testing.T) {
	if s := cold.Format(list()); s != listText {
		t.Errorf("Format = %q", s)
	}
	var most []api.Reading
	for i := range 200 {
		most = append(most, api.Reading{Hour: i * 5000, Temp: -1000})
	}
	if s := cold.Format(most); s != fullText() {
		t.Errorf("Format of 200 readings = %q", s)
	}
	for _, l := range wrongReadings() {
		if s := cold.Format(l); s != "" {
			t.Errorf("Format(%v) = %q", l, s)
		}
	}
}

func TestP46RoundTrip(t *testing.T) {
	all := [][]api.Reading{list(), nights(), full(), readings(0, 0), readings(lastHour, -maxTemp)}
	d := dice(41)
	for range 2000 {
		l, _ := d.readings()
		for i := range l {
			l[i].Temp *= d.throw(501)
		}
		all = append(all, l)
	}
	for _, l := range all {
		k, line, e := cold.Parse(cold.Format(l))
		if e != api.OK || line != 0 || !slices.Equal(k, l) {
			t.Fatalf("Parse(Format(%v)) = %v, %d, %d", l, k, line, e)
		}
	}
}

func TestP46Syntax(t *testing.T) {
	most := fullText()
	for _, c := range []struct {
		s    string
		line int
	}{
		{"", 0}, {"\n", 0}, {" ", 0}, {"1", 0}, {"1\n", 0}, {"1 \n", 0}, {" 2\n", 0}, {"1 2", 0}, {"12\n", 0}, {"1 2 3\n", 0}, {"1 2 \n", 0}, {" 1 2\n", 0}, {"1  2\n", 0}, {"1\t2\n", 0}, {"1 2\r\n", 0}, {"1,2\n", 0}, {"1\u00a02\n", 0}, {"1 2\x00\n", 0}, {"\n1 2\n", 0},
		{"01 2\n", 0}, {"1 02\n", 0}, {"1 00\n", 0}, {"+1 2\n", 0}, {"1 +2\n", 0}, {"1 -0\n", 0}, {"-0 2\n", 0}, {"1 -02\n", 0}, {"1 --2\n", 0}, {"1 - 2\n", 0}, {"1 -\n", 0}, {"1 1_0\n", 0}, {"1 0x1\n", 0}, {"1 1e2\n", 0}, {"1 2.0\n", 0}, {"x 2\n", 0}, {"1 x\n", 0}, {"1 ٢\n", 0}, {"1 −2\n", 0},
		{"-1 2\n", 0}, {"1000001 2\n", 0}, {"1 1001\n", 0}, {"1 -1001\n", 0}, {"1 99999999999999999999\n", 0}, {"1 -99999999999999999999\n", 0}, {"99999999999999999999 2\n", 0}, {"-99999999999999999999 2\n", 0}, {"18446744073709551617 2\n", 0}, {"1 18446744073709551617\n", 0}, {"9223372036854775807 2\n", 0}, {"1 -9223372036854775808\n", 0},
		{"1 2\n\n", 1}, {"1 2\n1 2\n", 1}, {"1 2\n0 2\n", 1}, {"5 2\n6 2\n5 2\n", 2}, {"1 2\n2 3", 1}, {"1 2\nx", 1}, {"1 2\nx\n3 2\ny\n", 1}, {"1 2\n2", 1}, {"1 2\n2 1001\n0 0", 1}, {"3 2\n2 1\nx", 1}, {listText + "1000001 5\n", 5}, {listText + "1000000 5\n", 5}, {listText + " ", 5}, {listText + "\n", 5},
		{most + "995001 2\n", 200}, {most + "\n", 200}, {most + "x", 200}, {most + "995001 2", 200}, {most + most, 200}, {"x\n" + most, 0}, {most[:len(most)-1], 199}, {most[:len(most)-len("\n")] + "0\n", 199}, {"0 1\n" + most, 1},
	} {
		if l, line, e := cold.Parse(c.s); len(l) != 0 || line != c.line || e != api.ErrSyntax {
			t.Errorf("Parse(%q) = %v, %d, %d; want %d", c.s, l, line, e, c.line)
		}
	}
}

func TestP46Long(t *testing.T) {
	for _, c := range []struct {
		s    string
		line int
		e    api.Errno
	}{
		{strings.Repeat("x", api.MaxText), 0, api.ErrSyntax},
		{strings.Repeat("x", api.MaxText+1), 0, api.ErrLong},
		{listText + strings.Repeat(" ", api.MaxText-len(listText)), 5, api.ErrSyntax},
		{listText + strings.Repeat(" ", api.MaxText-len(listText)+1), 0, api.ErrLong},
		{fullText() + strings.Repeat("\n", api.MaxText-len(fullText())), 200, api.ErrSyntax},
		{fullText() + strings.Repeat("\n", api.MaxText-len(fullText())+1), 0, api.ErrLong},
		{strings.Repeat("\n", 1<<20), 0, api.ErrLong},
	} {
		if l, line, e := cold.Parse(c.s); len(l) != 0 || line != c.line || e != c.e {
			t.Errorf("Parse of %d bytes = %v, %d, %d", len(c.s), l, line, e)
		}
	}
}

func TestP46Beginnings(t *testing.T) {
	for n := range len(listText) + 1 {
		s := listText[:n]
		lines := strings.Count(s, "\n")
		l, line, e := cold.Parse(s)
		if strings.HasSuffix(s, "\n") {
			if e != api.OK || line != 0 || !slices.Equal(l, list()[:lines]) {
				t.Errorf("Parse(%q) = %v, %d, %d", s, l, line, e)
			}
		} else if e != api.ErrSyntax || line != lines || len(l) != 0 {
			t.Errorf("Parse(%q) = %v, %d, %d", s, l, line, e)
		}
	}
}

func TestP46JustSuchTexts(t *testing.T) {
	for i := range listText {
		for b := range 256 {
			for _, s := range []string{listText[:i] + string([]byte{byte(b)}) + listText[i+1:], listText[:i] + string([]byte{byte(b)}) + listText[i:]} {
				l, line, e := cold.Parse(s)
				if e == api.OK && (cold.Format(l) != s || line != 0) || e != api.OK && (e != api.ErrSyntax || len(l) != 0) {
					t.Fatalf("Parse(%q) = %v, %d, %d", s, l, line, e)
				}
			}
		}
	}
}
