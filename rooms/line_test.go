package rooms_test

import (
	"fmt"
	"strings"
	"testing"

	"armature/api"
)

func TestP101Forms(t *testing.T) {
	x := begun(t, owl()...)
	check(t, x, refused(api.ErrCommand, "", " ", "x", "dance", "Day 5", "DAY 5", "days 5", "da 5", "in5", "day", "day 5 6", "day x", "day ", " day 5", "day 5 ", "day  5", "day\t5", "day 5\n", "\nday 5", "day 5\x00", "day 5\x7f", "day ٥", "danger 5", "danger ", "dänger",
		"permit owl york 0 9", "permit owl york 0 9 1 1", "permit owl york x 9 1", "permit owl york 0 x 1", "permit owl york 0 9 x", "permit owl  0 9 1", "permit  york 0 9 1", "permit fox owl york 0 9 1",
		"in 5 owl york 0", "in 5 owl york 0 2 2", "in x owl york 0 2", "in 5 owl york x 2", "in 5 owl york 0 x", "in 5 owl 0 2", "in 5  york 0 2", "in 5-9 owl york 0 2", "in 000005-9 owl york 0 2",
		"part 5 whole", "part 5 whole claw x", "part x whole claw", "part whole 5 claw", "part 5  claw", "write 5 whole key", "write 5 whole key value x", "write x whole key value", "write 5 whole key=value", "data 5", "data whole", "data x whole", "data 5 whole x",
		"lend 5 whole kew", "lend 5 whole kew x", "lend 5 whole kew 5 6", "lend x whole kew 5", "lend 5 whole 30", "back 5", "back x whole", "back 5 whole 9", "renew 5 whole", "renew 5 whole x", "renew x whole 9", "renew 5 9", "where 5", "where x whole", "where 5 whole x", "where whole",
		"move 5", "move 5 x", "move x 5", "move 5 1 1", "move 5 whole 1", "seal", "seal x", "seal 0 1", "open", "open x", "open 0 1")...)
	// What is no number, in each place of one.
	for _, n := range []string{"00", "01", "000005", "-1", "-0", "+5", "5.", "5.0", "0x5", "5e0", "1_0", "1000000", "9999999", "99999999999999999999", "٥", "x", "-", "five"} {
		for _, line := range []string{"day N", "permit owl york N 9 1", "permit owl york 0 N 1", "permit owl york 0 9 N", "in N owl york 0 2", "in 6 owl york N 2", "in 6 owl york 0 N", "part N whole claw", "write N whole a b", "data N whole", "lend N whole kew 9", "lend 5 whole kew N", "back N whole", "renew N whole 9", "renew 5 whole N", "where N whole", "move N 1", "move 5 N", "seal N", "open N"} {
			check(t, x, refused(api.ErrCommand, strings.Replace(line, "N", n, 1))...)
		}
	}
	// Bytes that no line has, also where any word may stand.
	for b := range 256 {
		if b < 32 || b > 126 {
			s := string([]byte{byte(b)})
			check(t, x, refused(api.ErrCommand, s, "danger"+s, s+"danger", "part 5 whole claw"+s, "lend 5 whole "+s+" 9", "write 5 whole "+s+" b", "where 5 a"+s+"b")...)
		}
	}
}

func TestP101Length(t *testing.T) {
	x := begun(t, owl()...)
	for form, e := range map[string]api.Errno{"where 5 W": api.ErrName, "part 5 W claw": api.ErrName, "permit W york 0 9 1": api.ErrInvalid, "in 6 owl W 0 2": api.ErrInvalid, "write 5 whole W b": api.ErrInvalid, "lend 5 whole W 9": api.ErrInvalid} {
		with := func(n int) string { return strings.Replace(form, "W", strings.Repeat("a", n-len(form)+1), 1) }
		check(t, x, refused(e, with(maxLine-1), with(maxLine))...)
		check(t, x, refused(api.ErrCommand, with(maxLine+1), with(maxLine+2), with(1<<20))...)
	}
	// Words may be any, but the numbers of a form must be some.
	check(t, x, refused(api.ErrName, "where 5 !", "where 5 ~", "data 5 =", "back 5 -", "part 5 # claw", "write 5 9 key value", "lend 5 ? ? 0", "renew 5 Whole 9")...)
	check(t, x, refused(api.ErrInvalid, "permit ! york 0 9 1", "in 6 ! york 0 2", "part 5 whole !", "write 5 whole ! b", "write 5 whole a !", "lend 5 whole ! 9")...)
}

func TestP101Day(t *testing.T) {
	check(t, begun(t), append([]reply{
		{"day 0", "day 0", api.OK}, {"day 7", "day 7", api.OK}, {"day 7", "day 7", api.OK}, {"day 6", "", api.ErrRange}, {"day 0", "", api.ErrRange}, {"day 100001", "", api.ErrRange}, {"day 999999", "", api.ErrRange}, {"day 8", "day 8", api.OK}, {"day 100000", "day 100000", api.OK}, {"day 99999", "", api.ErrRange}, {"day 100000", "day 100000", api.OK},
	}, refused(api.ErrRange, "day 100001", "day 0")...)...)
}

func TestP101Permit(t *testing.T) {
	x := begun(t)
	wrong := refused(api.ErrInvalid, "permit Owl york 0 9 1", "permit owl York 0 9 1", "permit ow-l york 0 9 1", "permit owl yo_rk 0 9 1", "permit owl,fox york 0 9 1", "permit "+strings.Repeat("o", 21)+" york 0 9 1", "permit owl "+strings.Repeat("y", 21)+" 0 9 1", "permit owl york 9 8 1", "permit owl york 1 0 1", "permit owl york 0 100001 1", "permit owl york 100001 100001 1", "permit owl york 0 999999 1", "permit owl york 0 9 101", "permit owl york 0 9 999999")
	check(t, x, wrong...)
	check(t, x, reply{"permit owl york 0 9 1", "permits 1", api.OK}, reply{"permit owl york 0 9 1", "permits 2", api.OK}, reply{"permit 0 9 100000 100000 100", "permits 3", api.OK}, reply{"permit " + strings.Repeat("o", 20) + " " + strings.Repeat("y", 20) + " 0 0 0", "permits 4", api.OK})
	for n := 5; n <= api.MaxPermits; n++ {
		check(t, x, reply{"permit fox bath 3 5 7", fmt.Sprintf("permits %d", n), api.OK})
	}
	check(t, x, refused(api.ErrLimit, "permit owl york 0 9 1", "permit fox bath 0 0 0")...)
	check(t, x, wrong...)
	p := x.Permits()
	if len(p) != api.MaxPermits || fmt.Sprint(p[2], p[11]) != "{[0] 9 100000 100000 100} {[fox] bath 3 5 7}" {
		t.Errorf("permits %v", p)
	}
}

func TestP103In(t *testing.T) {
	x := begun(t, "permit owl york 0 9 3", "permit fox bath 2 4 1", "day 3")
	check(t, x,
		reply{"in 5 owl york 0 2", "000005-9", api.OK}, reply{"in 8 owl york 3 0", "000008-X", api.OK}, reply{"in 999999 owl york 1 3", "999999-X", api.OK}, reply{"in 0 fox bath 3 3", "000000-0", api.OK},
	)
	// Each error alone, and each before all that come after it.
	check(t, x, refused(api.ErrRange, "in 6 owl york 4 0", "in 6 owl york 100001 0", "in 6 owl york 999999 0", "in 6 owl york 0 4", "in 6 owl york 0 999999", "in 6 Owl york 4 0", "in 6 owl York 0 4", "in 5 owl york 4 0", "in 5 owl york 0 4", "in 5 Owl York 4 4")...)
	check(t, x, refused(api.ErrInvalid, "in 6 Owl york 0 0", "in 6 owl York 0 0", "in 6 o-l york 0 0", "in 6 "+strings.Repeat("o", 21)+" york 0 0", "in 6 owl "+strings.Repeat("y", 21)+" 0 0", "in 5 Owl york 0 0", "in 5 owl york! 0 0")...)
	check(t, x, refused(api.ErrDuplicate, "in 5 owl york 0 0", "in 8 fox bath 2 0", "in 0 emu kew 0 0", "in 999999 owl york 0 0")...)
	check(t, x, refused(api.ErrPermit, "in 6 owl york 0 0", "in 6 owl bath 2 0", "in 6 fox york 2 0", "in 6 fox bath 2 0", "in 6 fox bath 1 0", "in 6 emu kew 0 0")...)
	if p, ok := x.Parts(8); !ok || fmt.Sprint(p) != "[{whole -1 [{kind owl} {number 000008x} {place york} {taken 3}]}]" {
		t.Errorf("parts of 8: %v", p)
	}
	if p, ok := x.Parts(0); !ok || fmt.Sprint(p) != "[{whole -1 [{kind fox} {number 0000000} {place bath} {taken 3}]}]" {
		t.Errorf("parts of 0: %v", p)
	}
	// Permits may have to change hands: the first owl needs the one that is for its day alone.
	y := begun(t, "day 9", "permit owl york 0 9 1", "permit owl york 3 3 1", "in 1 owl york 3 0", "in 2 owl york 4 0")
	check(t, y, refused(api.ErrPermit, "in 3 owl york 3 0", "in 3 owl york 5 0")...)
	check(t, y, reply{"permit owl york 5 5 1", "permits 3", api.OK}, reply{"in 3 owl york 3 0", "", api.ErrPermit}, reply{"in 3 owl york 5 0", "000003-1", api.OK})
}

func TestP101InMany(t *testing.T) {
	x := begun(t, crowd()...)
	check(t, x, refused(api.ErrLimit, "in 40 owl york 0 0", "in 40 emu kew 0 0", "part 7 whole claw", "part 7 p98 claw")...)
	check(t, x, refused(api.ErrRange, "in 40 owl york 1 0", "in 7 owl york 0 4")...)
	check(t, x, refused(api.ErrInvalid, "in 40 Owl york 0 0", "part 7 whole Claw")...)
	check(t, x, refused(api.ErrDuplicate, "in 7 owl york 0 0", "part 7 whole p98", "part 7 p9 whole")...)
	check(t, x, reply{"part 8 whole claw", "parts 2", api.OK}, reply{"danger", "0 1 2 3 4 5 6 7 8 9 10 11 12 13 14 15 16 17 18 19 20 21 22 23 24 25 26 27 28 29 30 31 32 33 34 35 36 37 38 39", api.OK})
	// In an empty permit there is no room for the first one, however many may come.
	check(t, begun(t, "permit owl york 0 9 0"), refused(api.ErrPermit, "in 1 owl york 0 0")...)
	check(t, begun(t), refused(api.ErrPermit, "in 1 owl york 0 0")...)
}

func TestP104Part(t *testing.T) {
	x := begun(t, owl()[:2]...)
	check(t, x, reply{"part 5 whole skull", "parts 2", api.OK}, reply{"part 5 skull jaw", "parts 3", api.OK}, reply{"write 5 skull state dry", "fields 5", api.OK}, reply{"part 5 skull " + strings.Repeat("e", 20), "parts 4", api.OK}, reply{"part 5 jaw 5", "parts 5", api.OK})
	check(t, x, refused(api.ErrName, "part 6 whole claw", "part 6 claw Claw", "part 5 claw skin", "part 5 claw Skin", "part 5 Whole claw", "part 5 whol claw", "part 5 claw whole", "part 50 whole claw")...)
	check(t, x, refused(api.ErrInvalid, "part 5 whole Claw", "part 5 whole c-w", "part 5 jaw "+strings.Repeat("c", 21))...)
	check(t, x, refused(api.ErrDuplicate, "part 5 whole whole", "part 5 whole jaw", "part 5 jaw jaw", "part 5 skull 5")...)
	p, _ := x.Parts(5)
	if s := fmt.Sprint(p); s != "[{whole -1 [{kind owl} {number 0000059} {place york} {taken 0}]} {skull 0 [{kind owl} {number 0000059} {place york} {state dry} {taken 0}]} {jaw 1 [{kind owl} {number 0000059} {place york} {taken 0}]} {eeeeeeeeeeeeeeeeeeee 1 [{kind owl} {number 0000059} {place york} {state dry} {taken 0}]} {5 2 [{kind owl} {number 0000059} {place york} {taken 0}]}]" {
		t.Errorf("parts %s", s)
	}
}

func TestP104Write(t *testing.T) {
	x := begun(t, owl()...)
	check(t, x, reply{"write 5 jaw state dry", "fields 5", api.OK}, reply{"write 5 jaw state dry", "fields 5", api.OK}, reply{"write 5 skin kind owl", "fields 4", api.OK}, reply{"write 5 jaw a 1", "fields 6", api.OK}, reply{"write 5 skin z 1", "fields 5", api.OK}, reply{"write 5 jaw b 2", "fields 7", api.OK}, reply{"write 5 jaw c 3", "fields 8", api.OK})
	check(t, x, refused(api.ErrName, "write 6 whole a 1", "write 5 claw a 1", "write 5 claw A !", "write 6 claw A !", "write 5 WHOLE a 1")...)
	check(t, x, refused(api.ErrInvalid, "write 5 whole A 1", "write 5 whole a A", "write 5 whole a=1 b", "write 5 whole "+strings.Repeat("k", 21)+" v", "write 5 whole k "+strings.Repeat("v", 21), "write 5 jaw A 1")...)
	check(t, x, refused(api.ErrData, "write 5 jaw state wet", "write 5 skin state wet", "write 5 whole a 2", "write 5 tooth z 2", "write 5 skull kind hawk", "write 5 skin number 0000067", "write 5 jaw z 2", "write 5 whole taken 1")...)
	check(t, x, refused(api.ErrLimit, "write 5 jaw d 4", "write 5 jaw z 1")...)
	check(t, x, reply{"write 5 jaw c 3", "fields 8", api.OK}, reply{"write 5 tooth z 1", "fields 5", api.OK})
}

func TestP104Data(t *testing.T) {
	x := begun(t, append(owl(), "write 5 jaw b 2", "write 5 skin a 1", "write 5 tooth x 9", "write 5 skull y0 8")...)
	for sign, more := range map[string][2]string{"whole": {"a=1 b=2 ", " x=9 y0=8"}, "skull": {"b=2 ", " x=9 y0=8"}, "jaw": {"b=2 ", " x=9 y0=8"}, "tooth": {"b=2 ", " x=9 y0=8"}, "skin": {"a=1 ", ""}} {
		check(t, x, reply{"data 5 " + sign, more[0] + "kind=owl number=0000059 place=york taken=0" + more[1], api.OK})
	}
	check(t, x, refused(api.ErrName, "data 6 whole", "data 5 claw", "data 5 Whole", "data 0 whole", "data 5 5")...)
	// Data may have more fields than a label.
	for i := range 3 {
		done(t, x, fmt.Sprintf("write 5 jaw j%d 1", i), fmt.Sprintf("write 5 skin s%d 1", i))
	}
	check(t, x, reply{"data 5 whole", "a=1 b=2 j0=1 j1=1 j2=1 kind=owl number=0000059 place=york s0=1 s1=1 s2=1 taken=0 x=9 y0=8", api.OK})
}

func TestP101Seal(t *testing.T) {
	x := begun(t)
	check(t, x, reply{"seal 2", "sealed 1", api.OK}, reply{"seal 0", "sealed 2", api.OK}, reply{"seal 3", "sealed 3", api.OK}, reply{"open 2", "sealed 2", api.OK})
	check(t, x, refused(api.ErrName, "seal 4", "open 4", "seal 999999", "open 999999")...)
	check(t, x, refused(api.ErrState, "seal 0", "seal 3", "open 1", "open 2")...)
	check(t, x, reply{"seal 1", "sealed 3", api.OK}, reply{"open 0", "sealed 2", api.OK}, reply{"open 3", "sealed 1", api.OK}, reply{"open 1", "sealed 0", api.OK}, reply{"open 1", "", api.ErrState})
}

func TestP106Danger(t *testing.T) {
	x := begun(t)
	check(t, x, reply{"danger", "none", api.OK})
	done(t, x, "permit owl york 0 9 9", "in 20 owl york 0 3", "in 3 owl york 0 2", "in 100 owl york 0 1", "in 5 owl york 0 0")
	check(t, x, reply{"danger", "3 5 20 100", api.OK}, reply{"seal 3", "sealed 1", api.OK}, reply{"danger", "3 5 100", api.OK}, reply{"seal 1", "sealed 2", api.OK}, reply{"danger", "3 5 100", api.OK}, reply{"seal 2", "sealed 3", api.OK}, reply{"danger", "5 100", api.OK}, reply{"open 3", "sealed 2", api.OK}, reply{"danger", "5 100", api.OK}, reply{"seal 0", "sealed 3", api.OK}, reply{"danger", "5", api.OK})
	// Where a whole stands counts, also while it is lent.
	check(t, x, reply{"lend 5 whole kew 9", "loans 1", api.OK}, reply{"danger", "5", api.OK}, reply{"move 100 0", "room 0", api.OK}, reply{"danger", "5 100", api.OK}, reply{"day 1", "day 1", api.OK}, reply{"back 5 whole", "home", api.OK}, reply{"move 5 3", "room 3", api.OK}, reply{"danger", "100", api.OK}, reply{"move 100 1", "room 1", api.OK}, reply{"danger", "none", api.OK})
}

func TestP101Limit(t *testing.T) {
	x := begun(t, append(owl(), days(api.MaxLines-len(owl()))...)...)
	check(t, x, refused(api.ErrLimit, "day 0", "day 100001", "danger", "data 5 whole", "where 5 whole", "where 6 whole", "permit Owl york 0 9 1", "in 5 owl york 0 0", "lend 5 whole kew 9", "seal 0", "seal 9", "move 5 9")...)
	check(t, x, refused(api.ErrCommand, "", "dance", "day 01", "danger 5")...)
	y := begun(t, days(api.MaxLines-1)...)
	check(t, y, reply{"day 100001", "", api.ErrRange}, reply{"danger", "none", api.OK}, reply{"danger", "", api.ErrLimit})
}
