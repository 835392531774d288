package permit_test

import (
	"reflect"
	"strings"
	"testing"

	"armature/api"
	"armature/permit"
)

const bookText = "york 0 9 1 fox owl\nbath 7 100000 100 0a\n"

func book() []api.Permit {
	return []api.Permit{leave(1, "fox", "owl"), {Kinds: []string{"0a"}, Place: "bath", From: 7, To: api.MaxDay, Most: 100}}
}

func samePermits(p, q []api.Permit) bool {
	return len(p) == 0 && len(q) == 0 || reflect.DeepEqual(p, q)
}

func TestP26Format(t *testing.T) {
	if s := permit.Format(book()); s != bookText {
		t.Errorf("Format = %q", s)
	}
	if s := permit.Format(leaves(12)); s != strings.Repeat("york 0 9 1 owl\n", 12) {
		t.Errorf("Format of 12 = %q", s)
	}
	if s := permit.Format(nil) + permit.Format(leaves(13)); s != "" {
		t.Errorf("Format of none and of 13 = %q", s)
	}
	for _, p := range wrongPermits() {
		if s := permit.Format([]api.Permit{leave(1, "owl"), p}); s != "" {
			t.Errorf("Format(%v) = %q", p, s)
		}
	}
}

func TestP26RoundTrip(t *testing.T) {
	word := strings.Repeat("w", 19)
	wide := api.Permit{Place: word + "x", From: api.MaxDay, To: api.MaxDay, Most: 100}
	for _, letter := range eleven()[:10] {
		wide.Kinds = append(wide.Kinds, word+letter)
	}
	var widest []api.Permit
	for range api.MaxPermits {
		widest = append(widest, wide)
	}
	all := [][]api.Permit{nil, {}, book(), leaves(12), widest}
	d := dice(30)
	for range 500 {
		_, permits := d.desk(0, 12, 100)
		all = append(all, permits)
	}
	for _, p := range all {
		q, line, e := permit.Parse(permit.Format(p))
		if e != api.OK || line != 0 || !samePermits(p, q) {
			t.Fatalf("Parse(Format(%v)) = %v, %d, %d", p, q, line, e)
		}
	}
}

func TestP26Syntax(t *testing.T) {
	long, twelve := strings.Repeat("x", 21), permit.Format(leaves(12))
	for _, c := range []struct {
		s    string
		line int
	}{
		{"\n", 0}, {"york", 0}, {"york\n", 0}, {"york 0\n", 0}, {"york 0 9\n", 0}, {"york 0 9 1\n", 0}, {"york 0 9 1 \n", 0}, {"york 0 9 1 owl", 0}, {"0 9 1 owl\n", 0}, {"york 0 9 owl\n", 0},
		{" york 0 9 1 owl\n", 0}, {"york  0 9 1 owl\n", 0}, {"york 0 9 1  owl\n", 0}, {"york 0 9 1 owl \n", 0}, {"york 0 9 1 owl\r\n", 0}, {"york\t0 9 1 owl\n", 0}, {"york 0 9 1\u00a0owl\n", 0}, {"york 0 9 1\vowl\n", 0},
		{"york 00 9 1 owl\n", 0}, {"york 0 09 1 owl\n", 0}, {"york 0 9 01 owl\n", 0}, {"york +0 9 1 owl\n", 0}, {"york -0 9 1 owl\n", 0}, {"york -1 9 1 owl\n", 0}, {"york 0 9 -1 owl\n", 0}, {"york 0 9 1_0 owl\n", 0}, {"york 0x0 9 1 owl\n", 0}, {"york 0 9 1.0 owl\n", 0},
		{"york 9 0 1 owl\n", 0}, {"york 0 100001 1 owl\n", 0}, {"york 0 9 101 owl\n", 0}, {"york 0 99999999999999999999 1 owl\n", 0}, {"york x 9 1 owl\n", 0},
		{"york 0 9 1 owl fox\n", 0}, {"york 0 9 1 owl owl\n", 0}, {"york 0 9 1 Owl\n", 0}, {"York 0 9 1 owl\n", 0}, {"york 0 9 1 é\n", 0}, {long + " 0 9 1 owl\n", 0}, {"york 0 9 1 " + long + "\n", 0},
		{"york 0 9 1 " + strings.Join(eleven(), " ") + "\n", 0},
		{"york 0 9 1 owl\n\n", 1}, {"york 0 9 1 owl\nyork 0 9 1 owl", 1}, {"york 0 9 1 owl\nx", 1}, {"york 0 9 1 owl\n\nyork 0 9 1 owl\nx\n", 1}, {bookText + "york 0 9 1\n", 2},
		{twelve + "york 0 9 1 owl\n", 12}, {twelve + "\n", 12}, {twelve + "x", 12}, {"x\n" + twelve, 0},
	} {
		if p, line, e := permit.Parse(c.s); len(p) != 0 || line != c.line || e != api.ErrSyntax {
			t.Errorf("Parse(%q) = %v, %d, %d", c.s, p, line, e)
		}
	}
}

func TestP26Long(t *testing.T) {
	for _, c := range []struct {
		s    string
		line int
		e    api.Errno
	}{
		{strings.Repeat("x", api.MaxText), 0, api.ErrSyntax},
		{strings.Repeat("x", api.MaxText+1), 0, api.ErrLong},
		{bookText + strings.Repeat(" ", api.MaxText-len(bookText)), 2, api.ErrSyntax},
		{bookText + strings.Repeat(" ", api.MaxText-len(bookText)+1), 0, api.ErrLong},
		{strings.Repeat("york 0 9 1 owl\n", api.MaxText/10), 0, api.ErrLong},
	} {
		if p, line, e := permit.Parse(c.s); len(p) != 0 || line != c.line || e != c.e {
			t.Errorf("Parse of %d bytes = %v, %d, %d", len(c.s), p, line, e)
		}
	}
}

func TestP26Beginnings(t *testing.T) {
	for n := range len(bookText) + 1 {
		s := bookText[:n]
		lines := strings.Count(s, "\n")
		p, line, e := permit.Parse(s)
		if s == "" || strings.HasSuffix(s, "\n") {
			if e != api.OK || line != 0 || !samePermits(p, book()[:lines]) {
				t.Errorf("Parse(%q) = %v, %d, %d", s, p, line, e)
			}
		} else if e != api.ErrSyntax || line != lines || len(p) != 0 {
			t.Errorf("Parse(%q) = %v, %d, %d", s, p, line, e)
		}
	}
}

func TestP26JustSuchTexts(t *testing.T) {
	for i := range bookText {
		for b := range 256 {
			s := bookText[:i] + string([]byte{byte(b)}) + bookText[i+1:]
			if p, line, e := permit.Parse(s); e == api.OK && (permit.Format(p) != s || line != 0) {
				t.Fatalf("Parse(%q) = %v, %d", s, p, line)
			}
		}
	}
}
