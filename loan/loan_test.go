package loan_test

import (
	"slices"
	"strings"
	"testing"

	"armature/api"
	"armature/loan"
)

func TestP91Name(t *testing.T) {
	for _, s := range []string{"a", "z", "0", "9", "-", "--", "-a", "a-", "owl", "000005-9-whole", "abcdefghijklmnopqrstuvwxyz", "0123456789-", strings.Repeat("a", maxName), strings.Repeat("-", maxName), strings.Repeat("9", maxName-1), strings.Repeat("x", 16), strings.Repeat("x", 17), strings.Repeat("x", 20), strings.Repeat("x", 21)} {
		if !loan.Name(s) {
			t.Errorf("Name(%q) = false", s)
		}
	}
	for _, s := range wrongNames() {
		if loan.Name(s) {
			t.Errorf("Name(%q) = true", s)
		}
	}
}

func TestP91ValidLoan(t *testing.T) {
	for _, x := range []api.Loan{lent("owl", "york", 5, 20, 30), lent("owl", "york", 5, 20, 0), lent("owl", "york", 0, 1, 0), lent("owl", "york", 0, 1, 1), lent("owl", "york", 5, 6, 6), lent("owl", "york", 5, 20, 20), lent("owl", "york", 5, 20, 19), lent("owl", "york", 5, lastDay, 6), lent("owl", "york", 0, lastDay, lastDay), lent("owl", "york", lastDay-1, lastDay, 0), lent("owl", "york", lastDay-1, lastDay, lastDay), lent("owl", "owl", 5, 6, 7), lent(strings.Repeat("a", maxName), strings.Repeat("-", maxName), 5, 6, 7)} {
		if !loan.ValidLoan(x) {
			t.Errorf("ValidLoan(%v) = false", x)
		}
	}
	for _, x := range wrongLoans() {
		if loan.ValidLoan(x) {
			t.Errorf("ValidLoan(%v) = true", x)
		}
	}
}

func TestP91Valid(t *testing.T) {
	for _, l := range [][]api.Loan{nil, {}, owls(), crowd(), row(), {lent("owl", "york", 0, 1, 1), lent("owl", "york", 1, 2, 2)}, {lent("owl", "york", 5, 6, 7), lent("fox", "york", 5, 6, 7)}, {lent("owl", "york", 5, 6, 0), lent("fox", "york", 5, 6, 0), lent("emu", "york", 5, 6, 0)}, {lent("owl", "york", 5, 6, 10), lent("fox", "york", 7, 8, 0), lent("owl", "york", 10, 11, 20), lent("owl", "york", 20, 25, 0)}, {lent("owl", "york", 5, 6, lastDay), lent("fox", "york", 5, 6, 0)}} {
		if !loan.Valid(l) {
			t.Errorf("Valid(%v) = false", l)
		}
	}
	for _, l := range wrongLists() {
		if loan.Valid(l) {
			t.Errorf("Valid(%v) = true", l)
		}
	}
}

// TestP91ValidAll changes loans of valid lists, and compares with a second account.
func TestP91ValidAll(t *testing.T) {
	var count [2]int
	d := dice(11)
	for range 5000 {
		l, first := d.loans(12)
		if !loan.Valid(l) {
			t.Fatalf("Valid(%v) = false", l)
		}
		if len(l) == 0 {
			continue
		}
		x := &l[d.throw(len(l))]
		switch d.throw(3) {
		case 0:
			x.Piece = d.piece()
		case 1:
			x.Back = d.between(x.Out+1, first+window)
		case 2:
			*x = d.loan(x.Piece, d.between(first, first+window-1), first+window)
		}
		_, _, clashes := overlapOf(l)
		want := !clashes && slices.IsSortedFunc(l, func(x, y api.Loan) int { return x.Out - y.Out })
		if loan.Valid(l) != want {
			t.Fatalf("Valid(%v) = %t", l, !want)
		}
		if want {
			count[0]++
		} else {
			count[1]++
		}
	}
	if min(count[0], count[1]) < 1000 {
		t.Errorf("valid and not valid: %v", count)
	}
}

func TestP91Overlap(t *testing.T) {
	for _, c := range []struct {
		l    []api.Loan
		i, j int
	}{
		{overlapping()[0], 0, 1}, {overlapping()[1], 0, 1}, {overlapping()[2], 0, 1}, {overlapping()[3], 0, 1}, {overlapping()[4], 0, 2}, {overlapping()[5], 0, 2}, {overlapping()[6], 0, 1}, {overlapping()[7], 1, 2},
		// The first one by i, though another pair is complete sooner.
		{[]api.Loan{lent("owl", "york", 1, 2, 9), lent("fox", "york", 2, 3, 9), lent("fox", "york", 3, 4, 9), lent("owl", "york", 4, 5, 9)}, 0, 3},
		{[]api.Loan{lent("emu", "york", 0, 2, 0), lent("owl", "york", 1, 2, 4), lent("fox", "york", 2, 3, 0), lent("owl", "york", 4, 5, 0), lent("owl", "york", 5, 6, 7), lent("fox", "york", 9, 10, 0)}, 2, 5},
		{append(crowd()[:199], lent("p198", "kew", lastDay-1, lastDay, 0)), 198, 199},
	} {
		if i, j, e := loan.Overlap(c.l); i != c.i || j != c.j || e != api.OK {
			t.Errorf("Overlap(%v) = %d, %d, %d; want %d, %d", c.l, i, j, e, c.i, c.j)
		}
	}
	for _, l := range [][]api.Loan{nil, {}, owls(), crowd(), row(), owls()[:1]} {
		if i, j, e := loan.Overlap(l); i != 0 || j != 0 || e != api.ErrNone {
			t.Errorf("Overlap(%v) = %d, %d, %d", l, i, j, e)
		}
	}
	lists := unordered()
	for _, x := range wrongLoans() {
		lists = append(lists, []api.Loan{x}, append(overlapping()[0], x))
	}
	for _, l := range lists {
		if i, j, e := loan.Overlap(l); i != 0 || j != 0 || e != api.ErrInvalid {
			t.Errorf("Overlap(%v) = %d, %d, %d", l, i, j, e)
		}
	}
}

// TestP91OverlapAll puts loans in order that may overlap, and compares with a second account.
func TestP91OverlapAll(t *testing.T) {
	found := 0
	d := dice(12)
	for range 3000 {
		l, first := d.loans(6)
		for range d.throw(4) {
			l = append(l, d.loan(d.piece(), d.between(first, first+window-1), first+window))
		}
		slices.SortStableFunc(l, func(x, y api.Loan) int { return x.Out - y.Out })
		wantI, wantJ, clashes := overlapOf(l)
		want := api.ErrNone
		if clashes {
			want = api.OK
			found++
		}
		if i, j, e := loan.Overlap(l); i != wantI || j != wantJ || e != want {
			t.Fatalf("Overlap(%v) = %d, %d, %d; want %d, %d, %d", l, i, j, e, wantI, wantJ, want)
		}
	}
	if found < 500 || found > 2500 {
		t.Errorf("%d overlap", found)
	}
}
