package carve_test

import (
	"strings"
	"testing"

	"armature/api"
	"armature/carve"
)

const mixedText = "side 3\n#..\n.#.\n..#\n...\n###\n#.#\n.##\n##.\n...\n"

func mixed() api.Block { return block("#.. .#. ..#", "... ### #.#", ".## ##. ...") }

func TestP56Format(t *testing.T) {
	for _, c := range []struct {
		b    api.Block
		want string
	}{
		{mixed(), mixedText}, {two(), "side 2\n#.\n..\n..\n.#\n"}, {full(1), "side 1\n#\n"}, {empty(1), "side 1\n.\n"}, {empty(2), "side 2\n..\n..\n..\n..\n"}, {full(10), "side 10\n" + strings.Repeat("##########\n", 100)},
	} {
		if s := carve.Format(c.b); s != c.want {
			t.Errorf("Format(%v) = %q; want %q", c.b, s, c.want)
		}
		if b, line, e := carve.Parse(c.want); e != api.OK || line != 0 || !same(b, c.b) {
			t.Errorf("Parse(%q) = %v, %d, %d; want %v", c.want, b, line, e, c.b)
		}
	}
	for _, b := range wrongBlocks() {
		if s := carve.Format(b); s != "" {
			t.Errorf("Format(%v) = %q", b, s)
		}
	}
}

func TestP56RoundTrip(t *testing.T) {
	for _, b := range blocks(41, 30) {
		if c, line, e := carve.Parse(carve.Format(b)); e != api.OK || line != 0 || !same(c, b) {
			t.Fatalf("Parse(Format(%v)) = %v, %d, %d", b, c, line, e)
		}
	}
}

func TestP56Syntax(t *testing.T) {
	largest := carve.Format(full(10))
	for _, c := range []struct {
		s    string
		line int
	}{
		{"", 0}, {"\n", 0}, {"side", 0}, {"side\n", 0}, {"side \n", 0}, {"side 1", 0}, {"side 10", 0}, {"side 1 \n#\n", 0}, {" side 1\n#\n", 0}, {"side  1\n#\n", 0}, {"side\t1\n#\n", 0}, {"side 1\r\n#\r\n", 0}, {"Side 1\n#\n", 0}, {"edge 1\n#\n", 0}, {"1\n#\n", 0}, {"\nside 1\n#\n", 0}, {"#\n", 0},
		{"side 0\n", 0}, {"side 0\n\n", 0}, {"side 11\n", 0}, {"side 01\n#\n", 0}, {"side +1\n#\n", 0}, {"side -1\n#\n", 0}, {"side 1.0\n#\n", 0}, {"side 0x1\n#\n", 0}, {"side 100\n", 0}, {"side x\n", 0}, {"side ١\n#\n", 0}, {"side 18446744073709551617\n#\n", 0}, {"side 1\x00\n#\n", 0},
		// A missing line, and a missing last line feed.
		{"side 1\n", 1}, {"side 1\n#", 1}, {"side 2\n##\n##\n##\n", 4}, {"side 2\n##\n##\n##\n##", 4}, {"side 2\n##\n##\n##\n#", 4}, {"side 2\n##\n", 2}, {"side 2\n##", 1}, {"side 10\n", 1},
		// Rows too short, too long or of other signs.
		{"side 1\n\n", 1}, {"side 1\n##\n", 1}, {"side 1\nx\n", 1}, {"side 1\n #\n", 1}, {"side 1\n# \n", 1}, {"side 1\n#\r\n", 1}, {"side 2\n#\n##\n##\n##\n", 1}, {"side 2\n##\n###\n##\n##\n", 2}, {"side 2\n##\n##\n\n##\n##\n", 3}, {"side 2\n##\n##\n##\n#x\n", 4}, {"side 2\n##\n##\n##\n\xff#\n", 4}, {"side 2\n##\nx#\ny#\nz#\n", 2}, {"side 3\n#x#\n", 1}, {"side 3\n#\x00#\n", 1}, {"side 2\n★\n", 1}, {"side 3\n★\n", 1},
		// Further lines.
		{"side 1\n#\n#\n", 2}, {"side 1\n#\n\n", 2}, {"side 1\n#\nx", 2}, {"side 1\n#\n#", 2}, {"side 1\n#\n##\nx\n", 2}, {mixedText + "\n", 10}, {mixedText + "...\n", 10}, {mixedText + " ", 10}, {mixedText + mixedText, 10}, {largest + "##########\n", 101}, {largest + "\n", 101}, {largest[:len(largest)-1], 100}, {"x\n" + largest, 0},
	} {
		if b, line, e := carve.Parse(c.s); b.Side != 0 || len(b.Has) != 0 || line != c.line || e != api.ErrSyntax {
			t.Errorf("Parse(%q) = %v, %d, %d; want %d", c.s, b, line, e, c.line)
		}
	}
}

func TestP56Long(t *testing.T) {
	for _, c := range []struct {
		s    string
		line int
		e    api.Errno
	}{
		{strings.Repeat("#", api.MaxText), 0, api.ErrSyntax}, {strings.Repeat("#", api.MaxText+1), 0, api.ErrLong},
		{mixedText + strings.Repeat("\n", api.MaxText-len(mixedText)), 10, api.ErrSyntax}, {mixedText + strings.Repeat("\n", api.MaxText-len(mixedText)+1), 0, api.ErrLong},
		{strings.Repeat("side 1\n#\n", 1<<16), 0, api.ErrLong},
	} {
		if b, line, e := carve.Parse(c.s); b.Side != 0 || len(b.Has) != 0 || line != c.line || e != c.e {
			t.Errorf("Parse of %d bytes = %v, %d, %d", len(c.s), b, line, e)
		}
	}
}

func TestP56Beginnings(t *testing.T) {
	for n := range len(mixedText) {
		s := mixedText[:n]
		if b, line, e := carve.Parse(s); b.Side != 0 || len(b.Has) != 0 || line != strings.Count(s, "\n") || e != api.ErrSyntax {
			t.Errorf("Parse(%q) = %v, %d, %d", s, b, line, e)
		}
	}
}

func TestP56JustSuchTexts(t *testing.T) {
	for i := range mixedText {
		for n := range 256 {
			c := string([]byte{byte(n)})
			for _, s := range []string{mixedText[:i] + c + mixedText[i+1:], mixedText[:i] + c + mixedText[i:], mixedText[:i] + mixedText[i+1:]} {
				b, line, e := carve.Parse(s)
				wrong := e == api.ErrSyntax && b.Side == 0 && len(b.Has) == 0
				right := e == api.OK && line == 0 && carve.Format(b) == s
				if !wrong && !right {
					t.Fatalf("Parse(%q) = %v, %d, %d", s, b, line, e)
				}
			}
		}
	}
}
