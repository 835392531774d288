package pose_test

import (
	"strings"
	"testing"

	"armature/api"
	"armature/pose"
)

const mixedText = "10 0,-5 3,-4\n0 1000,-1000\n100000 -12,0 0,0 7,-8\n"

func mixed() []api.Bone {
	return []api.Bone{bone(10, 0, -5, 3, -4), bone(0, 1000, -1000), bone(100000, -12, 0, 0, 0, 7, -8)}
}

func TestP66Format(t *testing.T) {
	for _, c := range []struct {
		l    []api.Bone
		want string
	}{
		{mixed(), mixedText}, {bent(), "10 0,-5 3,-4\n10 0,-5 -3,-4\n"}, {[]api.Bone{bone(0, 0, 0)}, "0 0,0\n"}, {farthest(), strings.Repeat("100000 1000,1000 -1000,-1000\n", 6)}, {[]api.Bone{up(0, 1, 2, 3, 4, 5, 6, 7)}, "1 0,0 0,1 0,2 0,3 0,4 0,5 0,6 0,7\n"},
	} {
		if s := pose.Format(c.l); s != c.want {
			t.Errorf("Format(%v) = %q; want %q", c.l, s, c.want)
		}
		if l, line, e := pose.Parse(c.want); e != api.OK || line != 0 || !sameLeg(l, c.l) {
			t.Errorf("Parse(%q) = %v, %d, %d", c.want, l, line, e)
		}
	}
	for _, l := range wrongLegs() {
		if s := pose.Format(l); s != "" {
			t.Errorf("Format(%v) = %q", l, s)
		}
	}
}

func TestP66RoundTrip(t *testing.T) {
	for _, l := range append(legs(31, 200), widest()) {
		if k, line, e := pose.Parse(pose.Format(l)); e != api.OK || line != 0 || !sameLeg(k, l) {
			t.Fatalf("Parse(Format(%v)) = %v, %d, %d", l, k, line, e)
		}
	}
}

func TestP66Syntax(t *testing.T) {
	most := strings.Repeat("1 0,0\n", 6)
	for _, c := range []struct {
		s    string
		line int
	}{
		{"", 0}, {"\n", 0}, {" ", 0}, {"10", 0}, {"10\n", 0}, {"10 \n", 0}, {"10 0\n", 0}, {"10 0,\n", 0}, {"10 ,0\n", 0}, {"10 ,\n", 0}, {"10 0,0", 0}, {"0,0\n", 0}, {" 0,0\n", 0}, {"10,0,0\n", 0}, {"10 0 0\n", 0}, {"10 0,0,0\n", 0}, {"10 0,0,\n", 0}, {"10 0,,0\n", 0}, {"10 0;0\n", 0}, {"10 0.0\n", 0},
		{" 10 0,0\n", 0}, {"10  0,0\n", 0}, {"10 0,0 \n", 0}, {"10 0,0  1,1\n", 0}, {"10 0, 0\n", 0}, {"10 0 ,0\n", 0}, {"10\t0,0\n", 0}, {"10 0,0\r\n", 0}, {"10\u00a00,0\n", 0}, {"10 0,0\x00\n", 0}, {"\n10 0,0\n", 0}, {"10 0,0 1\n", 0}, {"10 1,1 10\n", 0},
		// Numbers in other spellings.
		{"010 0,0\n", 0}, {"+10 0,0\n", 0}, {"-0 0,0\n", 0}, {"00 0,0\n", 0}, {"10 00,0\n", 0}, {"10 0,00\n", 0}, {"10 -0,0\n", 0}, {"10 0,-0\n", 0}, {"10 +1,0\n", 0}, {"10 0,+1\n", 0}, {"10 01,0\n", 0}, {"10 0,-01\n", 0}, {"10 --1,0\n", 0}, {"10 -,0\n", 0}, {"1_0 0,0\n", 0}, {"10 0x1,0\n", 0}, {"10 1e2,0\n", 0}, {"x 0,0\n", 0}, {"10 x,0\n", 0}, {"10 0,x\n", 0}, {"١ 0,0\n", 0}, {"10 ١,0\n", 0}, {"10 −1,0\n", 0},
		// Bones that are not valid.
		{"-1 0,0\n", 0}, {"100001 0,0\n", 0}, {"10 1001,0\n", 0}, {"10 0,1001\n", 0}, {"10 -1001,0\n", 0}, {"10 0,-1001\n", 0}, {"10 0,0 0,0\n", 0}, {"10 1,2 3,4 1,2\n", 0}, {"10 0,0 0,1 0,2 0,3 0,4 0,5 0,6 0,7 0,8\n", 0}, {"99999999999999999999 0,0\n", 0}, {"10 99999999999999999999,0\n", 0}, {"10 0,-99999999999999999999\n", 0}, {"18446744073709551617 0,0\n", 0}, {"10 18446744073709551617,0\n", 0}, {"9223372036854775807 0,0\n", 0}, {"10 0,-9223372036854775808\n", 0},
		// Later lines, and a missing last line feed.
		{"10 0,0\n10 0\n", 1}, {"10 0,0\n\n", 1}, {"10 0,0\n\n10 0,0\n", 1}, {"10 0,0\n10 0,0", 1}, {"10 0,0\nx", 1}, {"10 0,0\nx\n10 0,0\ny\n", 1}, {"10 0,0\n1", 1}, {"10 0,0\n ", 1}, {"x\n10 0,0\n", 0}, {mixedText + "\n", 3}, {mixedText + "10 0,0", 3}, {mixedText + "100001 0,0\n", 3}, {mixedText[:len(mixedText)-1], 2},
		{most + "1 0,0\n", 6}, {most + "1 0,0", 6}, {most + "\n", 6}, {most + "x", 6}, {most + most, 6}, {most[:len(most)-1], 5}, {"x\n" + most, 0}, {"1 0,0\n" + most, 6},
	} {
		if l, line, e := pose.Parse(c.s); len(l) != 0 || line != c.line || e != api.ErrSyntax {
			t.Errorf("Parse(%q) = %v, %d, %d; want %d", c.s, l, line, e, c.line)
		}
	}
}

func TestP66Long(t *testing.T) {
	for _, c := range []struct {
		s    string
		line int
		e    api.Errno
	}{
		{strings.Repeat("x", api.MaxText), 0, api.ErrSyntax}, {strings.Repeat("x", api.MaxText+1), 0, api.ErrLong},
		{mixedText + strings.Repeat("\n", api.MaxText-len(mixedText)), 3, api.ErrSyntax}, {mixedText + strings.Repeat("\n", api.MaxText-len(mixedText)+1), 0, api.ErrLong},
		{"1" + strings.Repeat(" 0,0", api.MaxText/4-1), 0, api.ErrSyntax}, {strings.Repeat(" ", api.MaxText), 0, api.ErrSyntax}, {strings.Repeat("1 0,0\n", 1<<16), 0, api.ErrLong},
	} {
		if l, line, e := pose.Parse(c.s); len(l) != 0 || line != c.line || e != c.e {
			t.Errorf("Parse of %d bytes = %v, %d, %d", len(c.s), l, line, e)
		}
	}
}

func TestP66Beginnings(t *testing.T) {
	for n := range len(mixedText) + 1 {
		s := mixedText[:n]
		lines := strings.Count(s, "\n")
		l, line, e := pose.Parse(s)
		if strings.HasSuffix(s, "\n") {
			if e != api.OK || line != 0 || !sameLeg(l, mixed()[:lines]) {
				t.Errorf("Parse(%q) = %v, %d, %d", s, l, line, e)
			}
		} else if e != api.ErrSyntax || line != lines || len(l) != 0 {
			t.Errorf("Parse(%q) = %v, %d, %d", s, l, line, e)
		}
	}
}

func TestP66JustSuchTexts(t *testing.T) {
	for i := range mixedText {
		for n := range 256 {
			c := string([]byte{byte(n)})
			for _, s := range []string{mixedText[:i] + c + mixedText[i+1:], mixedText[:i] + c + mixedText[i:], mixedText[:i] + mixedText[i+1:]} {
				l, line, e := pose.Parse(s)
				wrong := e == api.ErrSyntax && len(l) == 0
				right := e == api.OK && line == 0 && pose.Format(l) == s
				if !wrong && !right {
					t.Fatalf("Parse(%q) = %v, %d, %d", s, l, line, e)
				}
			}
		}
	}
}
