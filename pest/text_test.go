package pest_test

import (
	"slices"
	"strings"
	"testing"

	"armature/api"
	"armature/pest"
)

const threeText = "house 3 1 4\ndoor 0 1 3\ndoor 1 2 2\ndoor 0 2 1\n"

func TestP86Format(t *testing.T) {
	for _, c := range []struct {
		h    api.House
		want string
	}{
		{three(), threeText}, {house(1, 0, 0), "house 1 0 0\n"}, {house(12, 4094, 1), "house 12 4094 1\n"}, {house(12, 0, 4095, door(10, 11, 1000)), "house 12 0 4095\ndoor 10 11 1000\n"}, {house(2, 1, 2, door(0, 1, 0), door(0, 1, 0)), "house 2 1 2\ndoor 0 1 0\ndoor 0 1 0\n"}, {house(2, 0, 0, slices.Repeat([]api.Door{door(0, 1, 10)}, 40)...), "house 2 0 0\n" + strings.Repeat("door 0 1 10\n", 40)},
	} {
		if s := pest.Format(c.h); s != c.want {
			t.Errorf("Format(%v) = %q; want %q", c.h, s, c.want)
		}
		if h, line, e := pest.Parse(c.want); e != api.OK || line != 0 || !sameHouse(h, c.h) {
			t.Errorf("Parse(%q) = %v, %d, %d", c.want, h, line, e)
		}
	}
	for _, h := range wrongHouses() {
		if s := pest.Format(h); s != "" {
			t.Errorf("Format of no house = %q", s)
		}
	}
}

func TestP86RoundTrip(t *testing.T) {
	houses(41, 1000, api.MaxRooms, api.MaxDoors, func(d *dice, h api.House) {
		if k, line, e := pest.Parse(pest.Format(h)); e != api.OK || line != 0 || !sameHouse(k, h) {
			t.Fatalf("Parse(Format(%v)) = %v, %d, %d", h, k, line, e)
		}
	})
}

func TestP86Syntax(t *testing.T) {
	for _, c := range []struct {
		s    string
		line int
	}{
		// The house.
		{"", 0}, {"\n", 0}, {" ", 0}, {"house", 0}, {"house\n", 0}, {"house 1 0\n", 0}, {"house 1 0 0", 0}, {"house 1 0 0 0\n", 0}, {"house 1 0 0 \n", 0}, {" house 1 0 0\n", 0}, {"house  1 0 0\n", 0}, {"house 1  0 0\n", 0}, {"house\t1 0 0\n", 0}, {"house 1 0 0\r\n", 0}, {"House 1 0 0\n", 0}, {"houses 1 0 0\n", 0}, {"ouse 1 0 0\n", 0}, {"1 0 0\n", 0}, {"0 1 0 0\n", 0}, {"house house 1 0 0\n", 0}, {"\nhouse 1 0 0\n", 0}, {"door 0 1 1\n", 0}, {"door 0 1 1\nhouse 2 0 0\n", 0}, {"door 1 0 0\n", 0},
		{"house 0 0 0\n", 0}, {"house 13 0 0\n", 0}, {"house 1 1 1\n", 0}, {"house 1 2 0\n", 0}, {"house 1 0 2\n", 0}, {"house 3 3 6\n", 0}, {"house 12 4096 0\n", 0}, {"house 12 0 4096\n", 0}, {"house -1 0 0\n", 0}, {"house 1 -1 0\n", 0}, {"house 1 0 -1\n", 0}, {"house 1 -0 0\n", 0}, {"house 01 0 0\n", 0}, {"house 1 00 0\n", 0}, {"house 1 0 00\n", 0}, {"house +1 0 0\n", 0}, {"house 1 +0 0\n", 0}, {"house x 0 0\n", 0}, {"house 1 x 0\n", 0}, {"house 1 0 x\n", 0}, {"house 1,0,0\n", 0}, {"house 0x1 0 0\n", 0}, {"house 1_0 0 0\n", 0}, {"house ١ 0 0\n", 0}, {"house 99999999999999999999 0 0\n", 0}, {"house 18446744073709551617 0 0\n", 0}, {"house 1 18446744073709551616 0\n", 0}, {"house 1.0 0 0\n", 0}, {"house 1 0 0\x00\n", 0}, {"house 1 0\u00a00\n", 0}, {"house 1 0 0;\n", 0},
		// The doors.
		{"house 2 0 0\n\n", 1}, {"house 2 0 0\n ", 1}, {"house 2 0 0\nhouse 2 0 0\n", 1}, {"house 2 0 0\ndoor\n", 1}, {"house 2 0 0\ndoor 0 1\n", 1}, {"house 2 0 0\ndoor 0 1 1", 1}, {"house 2 0 0\ndoor 0 1 1 1\n", 1}, {"house 2 0 0\ndoor 0 1 1 \n", 1}, {"house 2 0 0\n door 0 1 1\n", 1}, {"house 2 0 0\ndoor  0 1 1\n", 1}, {"house 2 0 0\ndoor 0\t1 1\n", 1}, {"house 2 0 0\ndoor 0 1 1\r\n", 1}, {"house 2 0 0\nDoor 0 1 1\n", 1}, {"house 2 0 0\ndoors 0 1 1\n", 1}, {"house 2 0 0\n0 1 1\n", 1}, {"house 2 0 0\nwindow 0 1 1\n", 1}, {"house 2 0 0\n\ndoor 0 1 1\n", 1},
		{"house 2 0 0\ndoor 1 0 1\n", 1}, {"house 2 0 0\ndoor 1 1 1\n", 1}, {"house 2 0 0\ndoor 0 2 1\n", 1}, {"house 2 0 0\ndoor -1 1 1\n", 1}, {"house 2 0 0\ndoor 0 1 -1\n", 1}, {"house 2 0 0\ndoor 0 1 1001\n", 1}, {"house 2 0 0\ndoor 0 1 01\n", 1}, {"house 2 0 0\ndoor 00 1 1\n", 1}, {"house 2 0 0\ndoor 0 +1 1\n", 1}, {"house 2 0 0\ndoor 0 1 -0\n", 1}, {"house 2 0 0\ndoor x 1 1\n", 1}, {"house 2 0 0\ndoor 0 1 x\n", 1}, {"house 2 0 0\ndoor 0 1 99999999999999999999\n", 1}, {"house 2 0 0\ndoor 0 1 18446744073709551617\n", 1}, {"house 1 0 0\ndoor 0 1 1\n", 1},
		{threeText + "\n", 4}, {threeText + "door 0 3 1\n", 4}, {threeText + threeText, 4}, {threeText + "x", 4}, {threeText[:len(threeText)-1], 3}, {"house 3 1 4\ndoor 0 1 3\ndoor 2 1 2\ndoor 0 3 1\n", 2}, {"house 2 0 0\n" + strings.Repeat("door 0 1 1\n", 41), 41}, {"house 2 0 0\n" + strings.Repeat("door 0 1 1\n", 40) + "\n", 41}, {"house 2 0 0\n" + strings.Repeat("door 0 1 1\n", 60), 41}, {"house 2 0 0\n" + strings.Repeat("door 0 1 1\n", 39) + "door 0 1 1", 40},
	} {
		if h, line, e := pest.Parse(c.s); !isZero(h) || line != c.line || e != api.ErrSyntax {
			t.Errorf("Parse(%q) = %v, %d, %d; want %d", c.s, h, line, e, c.line)
		}
	}
}

func TestP86Long(t *testing.T) {
	for _, c := range []struct {
		s    string
		line int
		e    api.Errno
	}{
		{strings.Repeat("x", api.MaxText), 0, api.ErrSyntax}, {strings.Repeat("x", api.MaxText+1), 0, api.ErrLong},
		{threeText + strings.Repeat("\n", api.MaxText-len(threeText)), 4, api.ErrSyntax}, {threeText + strings.Repeat("\n", api.MaxText-len(threeText)+1), 0, api.ErrLong},
		{"house " + strings.Repeat("1 ", 1<<15-8), 0, api.ErrSyntax}, {"house 1 0 " + strings.Repeat("0", api.MaxText-11) + "\n", 0, api.ErrSyntax}, {strings.Repeat("house 1 0 0\n", 1<<16), 0, api.ErrLong}, {strings.Repeat("\n", api.MaxText), 0, api.ErrSyntax},
	} {
		if h, line, e := pest.Parse(c.s); !isZero(h) || line != c.line || e != c.e {
			t.Errorf("Parse of %d bytes = %v, %d, %d", len(c.s), h, line, e)
		}
	}
}

func TestP86Beginnings(t *testing.T) {
	for n := range len(threeText) + 1 {
		s := threeText[:n]
		h, line, e := pest.Parse(s)
		if strings.HasSuffix(s, "\n") {
			want := three()
			want.Doors = want.Doors[:strings.Count(s, "\n")-1]
			if !sameHouse(h, want) || line != 0 || e != api.OK {
				t.Errorf("Parse(%q) = %v, %d, %d", s, h, line, e)
			}
		} else if !isZero(h) || line != strings.Count(s, "\n") || e != api.ErrSyntax {
			t.Errorf("Parse(%q) = %v, %d, %d", s, h, line, e)
		}
	}
}

func TestP86JustSuchTexts(t *testing.T) {
	for i := range threeText {
		for n := range 256 {
			c := string([]byte{byte(n)})
			for _, s := range []string{threeText[:i] + c + threeText[i+1:], threeText[:i] + c + threeText[i:], threeText[:i] + threeText[i+1:]} {
				h, line, e := pest.Parse(s)
				wrong := e == api.ErrSyntax && isZero(h)
				right := e == api.OK && line == 0 && pest.Format(h) == s
				if !wrong && !right {
					t.Fatalf("Parse(%q) = %v, %d, %d", s, h, line, e)
				}
			}
		}
	}
}
