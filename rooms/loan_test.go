package rooms_test

import (
	"fmt"
	"slices"
	"strings"
	"testing"

	"armature/api"
)

func TestP104Lend(t *testing.T) {
	x := begun(t, append(owl(), "in 8 owl york 0 1")...)
	check(t, x, refused(api.ErrName, "lend 6 whole kew 9", "lend 5 claw kew 9", "lend 5 Whole kew 9", "lend 6 whole Kew 0", "lend 5 claw Kew 0")...)
	check(t, x, refused(api.ErrInvalid, "lend 5 whole Kew 9", "lend 5 whole kew_ 9", "lend 5 whole "+strings.Repeat("k", 31)+" 9", "lend 5 whole kew 0", "lend 5 jaw kew 100001", "lend 5 jaw kew 999999")...)
	check(t, x, reply{"lend 5 jaw bath-2 30", "loans 1", api.OK})
	// What is lent already: a loan that is not valid is told first.
	check(t, x, refused(api.ErrInvalid, "lend 5 jaw Kew 30", "lend 5 jaw kew 0")...)
	check(t, x, refused(api.ErrState, "lend 5 jaw kew 30")...)
	// A part of what is lent: this is told before all that is wrong with the loan.
	check(t, x, refused(api.ErrState, "lend 5 tooth kew 30", "lend 5 tooth Kew 30", "lend 5 tooth kew 0", "lend 5 tooth kew 999999")...)
	check(t, x, refused(api.ErrName, "lend 5 claw kew 30", "lend 6 tooth kew 30")...)
	// Above what is lent, and beside it, all may be lent.
	check(t, x, reply{"lend 5 skull " + strings.Repeat("k", 30) + " 1", "loans 2", api.OK}, reply{"lend 5 skin kew 100000", "loans 3", api.OK}, reply{"lend 5 whole york 9", "loans 4", api.OK}, reply{"lend 8 whole york 9", "loans 5", api.OK})
	check(t, x, refused(api.ErrState, "lend 5 whole kew 30", "lend 5 jaw kew 30", "lend 5 skin kew 30", "lend 5 skull kew 30", "lend 5 tooth kew 30", "lend 8 whole kew 30")...)
	// The whole itself is lent: this comes first for it, too.
	check(t, x, refused(api.ErrState, "lend 5 whole Kew 30", "lend 5 whole kew 0", "lend 5 jaw Kew 30", "lend 5 skin kew 999999")...)
	want := []api.Loan{{Piece: "000005-9-jaw", To: "bath-2", Due: 30}, {Piece: "000005-9-skull", To: strings.Repeat("k", 30), Due: 1}, {Piece: "000005-9-skin", To: "kew", Due: 100000}, {Piece: "000005-9-whole", To: "york", Due: 9}, {Piece: "000008-x-whole", To: "york", Due: 9}}
	if l := x.Loans(); !slices.Equal(l, want) {
		t.Errorf("loans %v", l)
	}
	// On the last day nothing can be lent any more.
	check(t, begun(t, append(owl(), "day 99999")...), reply{"lend 5 whole kew 100000", "loans 1", api.OK}, reply{"day 100000", "day 100000", api.OK}, reply{"lend 5 skin kew 100000", "", api.ErrState}, reply{"back 5 whole", "home", api.OK}, reply{"lend 5 skin kew 100000", "", api.ErrInvalid}, reply{"lend 5 skin kew 100001", "", api.ErrInvalid})
}

func TestP104LendAgain(t *testing.T) {
	x := begun(t, append(owl(), "lend 5 whole kew 9")...)
	check(t, x, reply{"lend 5 tooth kew 9", "", api.ErrState}, reply{"day 3", "day 3", api.OK}, reply{"lend 5 tooth kew 9", "", api.ErrState}, reply{"back 5 whole", "home", api.OK})
	// On the day on which it came back it can be lent again.
	check(t, x, reply{"lend 5 tooth kew 9", "loans 2", api.OK}, reply{"lend 5 whole bath 9", "loans 3", api.OK}, reply{"back 5 whole", "", api.ErrState}, reply{"day 4", "day 4", api.OK}, reply{"back 5 whole", "home", api.OK}, reply{"lend 5 tooth bath 9", "", api.ErrState})
	want := []api.Loan{{Piece: "000005-9-whole", To: "kew", Due: 9, Back: 3}, {Piece: "000005-9-tooth", To: "kew", Out: 3, Due: 9}, {Piece: "000005-9-whole", To: "bath", Out: 3, Due: 9, Back: 4}}
	if l := x.Loans(); !slices.Equal(l, want) {
		t.Errorf("loans %v", l)
	}
}

func TestP104LendMany(t *testing.T) {
	x := begun(t, crowd()...)
	for n := range 99 {
		done(t, x, fmt.Sprintf("lend 7 p%d kew 9", n))
	}
	for n := range 40 {
		done(t, x, fmt.Sprintf("lend %d whole kew 9", n))
	}
	for n := range 61 {
		done(t, x, fmt.Sprintf("day %d", n+1), fmt.Sprintf("back 7 p%d", n), "back 7 whole", fmt.Sprintf("lend 7 whole kew %d", n+9))
	}
	check(t, x, reply{"part 8 whole claw", "parts 2", api.OK}, reply{"back 8 whole", "home", api.OK})
	check(t, x, refused(api.ErrLimit, "lend 8 whole kew 999", "lend 8 claw kew 999")...)
	check(t, x, refused(api.ErrState, "lend 7 whole kew 999", "lend 7 p98 kew 999", "lend 9 whole kew 999")...)
	check(t, x, refused(api.ErrInvalid, "lend 8 whole kew 61", "lend 8 claw Kew 999")...)
	check(t, x, reply{"renew 7 whole 999", "due 999", api.OK}, reply{"back 9 whole", "home", api.OK})
	if l := x.Loans(); len(l) != api.MaxLoans {
		t.Errorf("%d loans", len(l))
	}
}

func TestP104Back(t *testing.T) {
	x := begun(t, append(owl(), "day 5", "lend 5 skull kew 9")...)
	check(t, x, refused(api.ErrName, "back 6 whole", "back 5 claw", "back 5 Skull", "back 6 claw")...)
	check(t, x, refused(api.ErrNone, "back 5 whole", "back 5 jaw", "back 5 skin")...)
	check(t, x, refused(api.ErrState, "back 5 skull")...)
	check(t, x, reply{"day 6", "day 6", api.OK}, reply{"back 5 skull", "home", api.OK}, reply{"back 5 skull", "", api.ErrNone}, reply{"lend 5 jaw kew 7", "loans 2", api.OK}, reply{"day 100000", "day 100000", api.OK}, reply{"back 5 skull", "", api.ErrNone}, reply{"back 5 jaw", "home", api.OK})
	want := []api.Loan{{Piece: "000005-9-skull", To: "kew", Out: 5, Due: 9, Back: 6}, {Piece: "000005-9-jaw", To: "kew", Out: 6, Due: 7, Back: 100000}}
	if l := x.Loans(); !slices.Equal(l, want) {
		t.Errorf("loans %v", l)
	}
}

func TestP104Renew(t *testing.T) {
	x := begun(t, append(owl(), "day 5", "lend 5 skull kew 9", "day 50")...)
	check(t, x, refused(api.ErrName, "renew 6 whole 99", "renew 5 claw 99", "renew 6 skull 999999", "renew 5 Skull 999999")...)
	check(t, x, refused(api.ErrRange, "renew 5 skull 100001", "renew 5 skull 999999", "renew 5 whole 100001")...)
	check(t, x, refused(api.ErrNone, "renew 5 whole 99", "renew 5 jaw 0", "renew 5 skin 100000")...)
	check(t, x, refused(api.ErrState, "renew 5 skull 9", "renew 5 skull 8", "renew 5 skull 0")...)
	check(t, x, reply{"renew 5 skull 10", "due 10", api.OK}, reply{"renew 5 skull 10", "", api.ErrState}, reply{"renew 5 skull 100000", "due 100000", api.OK}, reply{"renew 5 skull 100000", "", api.ErrState}, reply{"back 5 skull", "home", api.OK}, reply{"renew 5 skull 100000", "", api.ErrNone})
	if l := x.Loans(); !slices.Equal(l, []api.Loan{{Piece: "000005-9-skull", To: "kew", Out: 5, Due: 100000, Back: 50}}) {
		t.Errorf("loans %v", l)
	}
}

func TestP104Where(t *testing.T) {
	x := begun(t, append(owl(), "in 8 owl york 0 1")...)
	at := func(places ...string) {
		t.Helper()
		for i, sign := range []string{"whole", "skull", "jaw", "tooth", "skin"} {
			check(t, x, reply{"where 5 " + sign, places[i], api.OK})
		}
		check(t, x, reply{"where 8 whole", "room 1", api.OK})
	}
	at("room 2", "room 2", "room 2", "room 2", "room 2")
	done(t, x, "lend 5 jaw kew 9")
	at("room 2", "room 2", "at kew", "at kew", "room 2")
	done(t, x, "move 5 0", "lend 5 skull bath 9")
	at("room 0", "at bath", "at kew", "at kew", "room 0")
	done(t, x, "lend 5 whole york 9")
	at("at york", "at bath", "at kew", "at kew", "at york")
	// What is overdue is still where it was lent to, and what is back is with the whole.
	done(t, x, "day 50", "back 5 jaw")
	at("at york", "at bath", "at bath", "at bath", "at york")
	done(t, x, "back 5 skull")
	at("at york", "at york", "at york", "at york", "at york")
	done(t, x, "back 5 whole", "move 5 3")
	at("room 3", "room 3", "room 3", "room 3", "room 3")
	done(t, x, "lend 5 tooth home 99")
	at("room 3", "room 3", "room 3", "at home", "room 3")
	check(t, x, refused(api.ErrName, "where 6 whole", "where 5 claw", "where 5 Whole", "where 8 skull")...)
}

func TestP104Move(t *testing.T) {
	x := begun(t, append(owl(), "in 8 owl york 0 1")...)
	check(t, x, reply{"move 5 3", "room 3", api.OK}, reply{"move 5 3", "room 3", api.OK}, reply{"move 8 0", "room 0", api.OK}, reply{"where 5 jaw", "room 3", api.OK}, reply{"where 8 whole", "room 0", api.OK})
	check(t, x, refused(api.ErrName, "move 6 0", "move 6 4", "move 0 0")...)
	check(t, x, refused(api.ErrRange, "move 5 4", "move 5 999999")...)
	done(t, x, "lend 5 skull kew 9", "lend 5 skin kew 9")
	check(t, x, reply{"move 5 1", "room 1", api.OK}, reply{"lend 5 whole kew 9", "loans 3", api.OK})
	check(t, x, refused(api.ErrRange, "move 5 4")...)
	check(t, x, refused(api.ErrState, "move 5 2", "move 5 1")...)
	check(t, x, reply{"move 8 2", "room 2", api.OK}, reply{"day 1", "day 1", api.OK}, reply{"move 5 2", "", api.ErrState}, reply{"back 5 whole", "home", api.OK}, reply{"move 5 2", "room 2", api.OK})
}
