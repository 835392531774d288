package scene_test

import (
	"strings"
	"testing"

	"armature/api"
	"armature/scene"
)

const hillText = "ground 3 2\n0 1 1000\n10 999 5\n"

func hill() api.Ground { return ground(3, 2, 0, 1, 1000, 10, 999, 5) }

func TestP76Format(t *testing.T) {
	for _, c := range []struct {
		g    api.Ground
		want string
	}{
		{hill(), hillText}, {ground(1, 1), "ground 1 1\n0\n"}, {ground(2, 2, 1, 2, 3), "ground 2 2\n1 2\n3 0\n"}, {ground(1, 3, 0, 50, 0), "ground 1 3\n0\n50\n0\n"}, {ground(4, 1, 7, 8), "ground 4 1\n7 8 0 0\n"}, {level(24, 24, 1000), "ground 24 24\n" + strings.Repeat(strings.Repeat("1000 ", 23)+"1000\n", 24)},
	} {
		if s := scene.Format(c.g); s != c.want {
			t.Errorf("Format(%v) = %q; want %q", c.g, s, c.want)
		}
		if g, line, e := scene.Parse(c.want); e != api.OK || line != 0 || !sameGround(g, c.g) {
			t.Errorf("Parse(%q) = %v, %d, %d", c.want, g, line, e)
		}
	}
	for _, g := range wrongGrounds() {
		if s := scene.Format(g); s != "" {
			t.Errorf("Format of no ground = %q", s)
		}
	}
}

func TestP76RoundTrip(t *testing.T) {
	d := dice(41)
	for range 1000 {
		g := d.ground(api.MaxCells)
		if k, line, e := scene.Parse(scene.Format(g)); e != api.OK || line != 0 || !sameGround(k, g) {
			t.Fatalf("Parse(Format(%v)) = %v, %d, %d", g, k, line, e)
		}
	}
}

func TestP76Syntax(t *testing.T) {
	for _, c := range []struct {
		s    string
		line int
	}{
		// The sides.
		{"", 0}, {"\n", 0}, {" ", 0}, {"ground", 0}, {"ground\n", 0}, {"ground 1\n", 0}, {"ground 1 \n5\n", 0}, {"ground  1\n5\n", 0}, {"ground 1 1", 0}, {"ground 1 1 1\n5\n", 0}, {"ground 1 1 \n5\n", 0}, {" ground 1 1\n5\n", 0}, {"ground  1 1\n5\n", 0}, {"ground 1  1\n5\n", 0}, {"ground\t1 1\n5\n", 0}, {"ground 1\t1\n5\n", 0}, {"ground 1 1\r\n5\n", 0}, {"Ground 1 1\n5\n", 0}, {"grounds 1 1\n5\n", 0}, {"roung 1 1\n5\n", 0}, {"1 1\n5\n", 0}, {"ground ground 1 1\n5\n", 0}, {"side 1 1\n5\n", 0}, {"\nground 1 1\n5\n", 0}, {"5\nground 1 1\n", 0}, {"5\n", 0},
		{"ground 0 1\n\n", 0}, {"ground 1 0\n", 0}, {"ground 0 0\n", 0}, {"ground 25 1\n", 0}, {"ground 1 25\n", 0}, {"ground -1 1\n5\n", 0}, {"ground 1 -1\n5\n", 0}, {"ground 01 1\n5\n", 0}, {"ground 1 01\n5\n", 0}, {"ground +1 1\n5\n", 0}, {"ground 1 +1\n5\n", 0}, {"ground x 1\n5\n", 0}, {"ground 1 x\n5\n", 0}, {"ground 1,1\n5\n", 0}, {"ground 0x1 1\n5\n", 0}, {"ground 1 1_0\n5\n", 0}, {"ground ١ 1\n5\n", 0}, {"ground 1 99999999999999999999\n5\n", 0}, {"ground 18446744073709551617 1\n5\n", 0}, {"ground 1.0 1\n5\n", 0},
		// The rows.
		{"ground 1 1\n", 1}, {"ground 1 1\n5", 1}, {"ground 1 1\n\n", 1}, {"ground 1 1\n5 5\n", 1}, {"ground 2 1\n5\n", 1}, {"ground 2 1\n5 \n", 1}, {"ground 2 1\n 5\n", 1}, {"ground 2 1\n5 5 5\n", 1}, {"ground 2 1\n5  5\n", 1}, {"ground 2 1\n5 5 \n", 1}, {"ground 2 1\n 5 5\n", 1}, {"ground 2 1\n5\t5\n", 1}, {"ground 2 1\n5,5\n", 1}, {"ground 2 1\n5\n5\n", 1}, {"ground 1 1\n5\r\n", 1}, {"ground 1 1\nx\n", 1}, {"ground 1 1\n-1\n", 1}, {"ground 1 1\n-0\n", 1}, {"ground 1 1\n+5\n", 1}, {"ground 1 1\n05\n", 1}, {"ground 1 1\n00\n", 1}, {"ground 1 1\n1001\n", 1}, {"ground 2 1\n1001 5\n", 1}, {"ground 2 1\n5 1001\n", 1}, {"ground 2 1\n5 05\n", 1}, {"ground 2 1\n5 -5\n", 1}, {"ground 1 1\n99999999999999999999\n", 1}, {"ground 1 1\n18446744073709551621\n", 1}, {"ground 1 1\n9223372036854775807\n", 1}, {"ground 1 1\n5.0\n", 1}, {"ground 1 1\n٥\n", 1}, {"ground 1 1\n5\x00\n", 1}, {"ground 1 1\n5\u00a0\n", 1}, {"ground 1 1\nground 1 1\n5\n", 1},
		{"ground 1 2\n5\n", 2}, {"ground 1 2\n5\n5", 2}, {"ground 1 2\n5\n\n", 2}, {"ground 1 2\n5\nx\n", 2}, {"ground 1 2\n5\n5 5\n", 2}, {"ground 1 2\nx\n5\n", 1}, {"ground 1 2\nx\nx\n", 1}, {"ground 1 3\n5\n5\n", 3}, {"ground 2 3\n5 5\n5 5\n5 \n", 3}, {"ground 24 24\n" + strings.Repeat(strings.Repeat("1000 ", 23)+"1000\n", 23), 24},
		// More lines than rows.
		{"ground 1 1\n5\n5\n", 2}, {"ground 1 1\n5\n\n", 2}, {"ground 1 1\n5\n5", 2}, {"ground 1 1\n5\nx\ny\n", 2}, {"ground 1 1\n5\nground 1 1\n5\n", 2}, {hillText + "0 1 1000\n", 3}, {hillText + "\n", 3}, {hillText + " ", 3}, {hillText + hillText, 3}, {hillText[:len(hillText)-1], 2},
	} {
		if g, line, e := scene.Parse(c.s); !isZero(g) || line != c.line || e != api.ErrSyntax {
			t.Errorf("Parse(%q) = %v, %d, %d; want %d", c.s, g, line, e, c.line)
		}
	}
}

func TestP76Long(t *testing.T) {
	for _, c := range []struct {
		s    string
		line int
		e    api.Errno
	}{
		{strings.Repeat("x", api.MaxText), 0, api.ErrSyntax}, {strings.Repeat("x", api.MaxText+1), 0, api.ErrLong},
		{hillText + strings.Repeat("\n", api.MaxText-len(hillText)), 3, api.ErrSyntax}, {hillText + strings.Repeat("\n", api.MaxText-len(hillText)+1), 0, api.ErrLong},
		{"ground 24 24\n" + strings.Repeat("1 ", 1<<15-8), 1, api.ErrSyntax}, {strings.Repeat("ground 1 1\n", 1<<16), 0, api.ErrLong}, {strings.Repeat("\n", api.MaxText), 0, api.ErrSyntax},
	} {
		if g, line, e := scene.Parse(c.s); !isZero(g) || line != c.line || e != c.e {
			t.Errorf("Parse of %d bytes = %v, %d, %d", len(c.s), g, line, e)
		}
	}
}

func TestP76Beginnings(t *testing.T) {
	for n := range len(hillText) {
		s := hillText[:n]
		if g, line, e := scene.Parse(s); !isZero(g) || line != strings.Count(s, "\n") || e != api.ErrSyntax {
			t.Errorf("Parse(%q) = %v, %d, %d", s, g, line, e)
		}
	}
}

func TestP76JustSuchTexts(t *testing.T) {
	for i := range hillText {
		for n := range 256 {
			c := string([]byte{byte(n)})
			for _, s := range []string{hillText[:i] + c + hillText[i+1:], hillText[:i] + c + hillText[i:], hillText[:i] + hillText[i+1:]} {
				g, line, e := scene.Parse(s)
				wrong := e == api.ErrSyntax && isZero(g)
				right := e == api.OK && line == 0 && scene.Format(g) == s
				if !wrong && !right {
					t.Fatalf("Parse(%q) = %v, %d, %d", s, g, line, e)
				}
			}
		}
	}
}
