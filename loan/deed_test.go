package loan_test

import (
	"slices"
	"strconv"
	"testing"

	"armature/api"
	"armature/loan"
)

func sameLoans(l []api.Loan, e api.Errno, want []api.Loan, wantE api.Errno) bool {
	return e == wantE && slices.Equal(l, want)
}

func TestP94Lend(t *testing.T) {
	back := []api.Loan{lent("owl", "york", 5, 20, 30), lent("fox", "york", 30, 31, 35)}
	for _, c := range []struct {
		l []api.Loan
		x api.Loan
		e api.Errno
	}{
		{nil, lent("owl", "york", 0, 1, 0), api.OK}, {owls(), lent("emu", "kew", 30, 31, 0), api.OK}, {owls(), lent("emu", "kew", lastDay-1, lastDay, 0), api.OK}, {back, lent("owl", "kew", 30, 31, 0), api.OK}, {back, lent("fox", "kew", 35, 36, 0), api.OK}, {crowd()[:199], lent("owl", "york", 8, 9, 0), api.OK}, {row()[:199], lent("owl", "york", 199*500, lastDay, 0), api.OK},
		{owls(), lent("emu", "kew", 29, 31, 0), api.ErrState}, {owls(), lent("emu", "kew", 0, 31, 0), api.ErrState}, {owls(), lent("owl", "kew", 30, 31, 0), api.ErrState}, {owls(), lent("owl", "kew", 90000, 90001, 0), api.ErrState}, {owls(), lent("fox", "kew", 30, 31, 0), api.ErrState}, {back, lent("fox", "kew", 30, 31, 0), api.ErrState}, {back, lent("fox", "kew", 34, 36, 0), api.ErrState}, {back, lent("owl", "kew", 29, 31, 0), api.ErrState},
		{crowd(), lent("owl", "york", 8, 9, 0), api.ErrLimit}, {row(), lent("fox", "york", lastDay-1, lastDay, 0), api.ErrLimit}, {crowd(), lent("owl", "york", 7, 9, 0), api.ErrState}, {crowd(), lent("p0", "york", 8, 9, 0), api.ErrState},
		{owls(), lent("emu", "kew", 30, 31, 31), api.ErrInvalid}, {nil, lent("owl", "york", 0, 1, 1), api.ErrInvalid}, {owls(), lent("owl", "kew", 5, 31, 6), api.ErrInvalid}, {crowd(), lent("owl", "york", 8, 9, 10), api.ErrInvalid},
	} {
		var want []api.Loan
		if c.e == api.OK {
			want = append(slices.Clone(c.l), c.x)
		}
		if l, e := loan.Lend(c.l, c.x); !sameLoans(l, e, want, c.e) {
			t.Errorf("Lend(%v, %v) = %v, %d; want %d", c.l, c.x, l, e, c.e)
		}
	}
	for _, x := range wrongLoans() {
		for _, l := range [][]api.Loan{nil, owls(), crowd()} {
			if k, e := loan.Lend(l, x); !sameLoans(k, e, nil, api.ErrInvalid) {
				t.Errorf("Lend of %v = %v, %d", x, k, e)
			}
		}
	}
	for _, l := range wrongLists() {
		for _, x := range []api.Loan{lent("emu", "kew", 90000, 90001, 0), lent("owl", "kew", 0, 1, 0), {}} {
			if k, e := loan.Lend(l, x); !sameLoans(k, e, nil, api.ErrInvalid) {
				t.Errorf("Lend to %v = %v, %d", l, k, e)
			}
		}
	}
}

func TestP94Back(t *testing.T) {
	for _, c := range []struct {
		piece string
		day   int
		index int
		e     api.Errno
	}{
		{"fox", 8, 1, api.OK}, {"fox", 9, 1, api.OK}, {"fox", lastDay, 1, api.OK}, {"owl", 31, 2, api.OK}, {"owl", lastDay, 2, api.OK},
		{"fox", 7, 0, api.ErrState}, {"fox", 6, 0, api.ErrState}, {"fox", 0, 0, api.ErrState}, {"owl", 30, 0, api.ErrState}, {"owl", 10, 0, api.ErrState}, {"emu", 50, 0, api.ErrNone}, {"emu", 0, 0, api.ErrNone}, {"york", 50, 0, api.ErrNone},
	} {
		var want []api.Loan
		if c.e == api.OK {
			want = owls()
			want[c.index].Back = c.day
		}
		if l, e := loan.Back(owls(), c.piece, c.day); !sameLoans(l, e, want, c.e) {
			t.Errorf("Back(%v) = %v, %d", c, l, e)
		}
	}
	for _, day := range []int{0, 5, 6, 29, 30, 31, lastDay} {
		if l, e := loan.Back(owls()[:2], "owl", day); !sameLoans(l, e, nil, api.ErrNone) {
			t.Errorf("Back(%d) of what is back = %v, %d", day, l, e)
		}
		if l, e := loan.Back(nil, "owl", day); !sameLoans(l, e, nil, api.ErrNone) {
			t.Errorf("Back(%d) without loans = %v, %d", day, l, e)
		}
	}
}

func TestP94Renew(t *testing.T) {
	for _, c := range []struct {
		piece string
		due   int
		index int
		e     api.Errno
	}{
		{"fox", 10, 1, api.OK}, {"fox", lastDay, 1, api.OK}, {"owl", 41, 2, api.OK}, {"owl", lastDay, 2, api.OK},
		{"fox", 9, 0, api.ErrState}, {"fox", 8, 0, api.ErrState}, {"fox", 0, 0, api.ErrState}, {"owl", 40, 0, api.ErrState}, {"owl", 21, 0, api.ErrState}, {"emu", 50, 0, api.ErrNone}, {"emu", 0, 0, api.ErrNone}, {"bath", 50, 0, api.ErrNone},
	} {
		var want []api.Loan
		if c.e == api.OK {
			want = owls()
			want[c.index].Due = c.due
		}
		if l, e := loan.Renew(owls(), c.piece, c.due); !sameLoans(l, e, want, c.e) {
			t.Errorf("Renew(%v) = %v, %d", c, l, e)
		}
	}
	for _, due := range []int{0, 19, 20, 21, lastDay} {
		if l, e := loan.Renew(owls()[:2], "owl", due); !sameLoans(l, e, nil, api.ErrNone) {
			t.Errorf("Renew(%d) of what is back = %v, %d", due, l, e)
		}
	}
	last := []api.Loan{lent("owl", "york", 5, lastDay, 0)}
	if l, e := loan.Renew(last, "owl", lastDay); !sameLoans(l, e, nil, api.ErrState) {
		t.Errorf("Renew to the last day = %v, %d", l, e)
	}
}

// deed does something at random, and says anew what must come of it.
func (d *dice) deed(l []api.Loan, day int) (got []api.Loan, e api.Errno, want []api.Loan, wantE api.Errno) {
	piece := d.piece()
	open := slices.IndexFunc(l, func(x api.Loan) bool { return x.Piece == piece && x.Back == 0 })
	want = slices.Clone(l)
	switch d.throw(4) {
	case 0, 1:
		x := lent(piece, d.borrower(), day, d.between(day+1, day+20), 0)
		got, e = loan.Lend(l, x)
		if len(l) > 0 && day < l[len(l)-1].Out || at(l, piece, day) != "" {
			return got, e, nil, api.ErrState
		}
		return got, e, append(want, x), api.OK
	case 2:
		got, e = loan.Back(l, piece, day)
		if open >= 0 && day > l[open].Out {
			want[open].Back = day
			return got, e, want, api.OK
		}
	default:
		got, e = loan.Renew(l, piece, day)
		if open >= 0 && day > l[open].Due {
			want[open].Due = day
			return got, e, want, api.OK
		}
	}
	if open < 0 {
		return got, e, nil, api.ErrNone
	}
	return got, e, nil, api.ErrState
}

// TestP94Kept does many things in a row: the loans stay valid.
func TestP94Kept(t *testing.T) {
	count := map[api.Errno]int{}
	d := dice(41)
	for range 300 {
		var l []api.Loan
		now := 0
		for range 60 {
			now += d.throw(4)
			day := max(0, now+d.between(-3, 3))
			got, e, want, wantE := d.deed(l, day)
			if !sameLoans(got, e, want, wantE) {
				t.Fatalf("%v became %v, %d; want %v, %d", l, got, e, want, wantE)
			}
			count[e]++
			if e != api.OK {
				continue
			}
			if _, _, clashes := overlapOf(got); clashes || !loan.Valid(got) {
				t.Fatalf("%v became %v", l, got)
			}
			if len(got) > len(l) {
				x := got[len(l)]
				if s, e := loan.Where(got, x.Piece, x.Out); s != x.To || e != api.OK {
					t.Fatalf("%v is at %q, %d", x, s, e)
				}
			}
			for i, x := range l {
				if y := got[i]; x.Back != y.Back {
					if s, e := loan.Where(got, x.Piece, y.Back); s != "" || e != api.OK {
						t.Fatalf("%v came back to %q, %d", y, s, e)
					}
				}
			}
			l = got
		}
	}
	if count[api.OK] < 4000 || count[api.ErrNone] < 500 || count[api.ErrState] < 2000 {
		t.Errorf("errors: %v", count)
	}
}

func TestP94Merged(t *testing.T) {
	l := owls()
	same := []api.Loan{lent("emu", "kew", 7, 8, 9), lent("hen", "kew", 30, 31, 0)}
	for _, c := range []struct {
		a, b, want []api.Loan
		e          api.Errno
	}{
		{nil, nil, nil, api.OK}, {l, nil, l, api.OK}, {nil, l, l, api.OK}, {l[1:2], l[:1], l[:2], api.OK}, {l[:1], l[1:], l, api.OK}, {l[2:], l[:2], l, api.OK}, {l[1:2], []api.Loan{l[0], l[2]}, l, api.OK},
		{l, same, []api.Loan{l[0], l[1], same[0], l[2], same[1]}, api.OK}, {same, l, []api.Loan{l[0], same[0], l[1], same[1], l[2]}, api.OK}, {crowd()[:80], crowd()[80:], crowd(), api.OK}, {row()[80:], row()[:80], row(), api.OK}, {crowd(), nil, crowd(), api.OK}, {nil, row(), row(), api.OK},
		{l, l, nil, api.ErrState}, {l, l[2:], nil, api.ErrState}, {l[:1], []api.Loan{lent("owl", "kew", 29, 30, 31)}, nil, api.ErrState}, {l[:1], []api.Loan{lent("owl", "kew", 4, 5, 6)}, nil, api.ErrState}, {l[:1], []api.Loan{lent("owl", "kew", 5, 6, 7)}, nil, api.ErrState}, {l[2:], []api.Loan{lent("owl", "kew", 90000, 90001, 90002)}, nil, api.ErrState}, {l[1:2], []api.Loan{lent("fox", "kew", 5, 6, 0)}, nil, api.ErrState},
		{l[:1], []api.Loan{lent("owl", "kew", 4, 5, 5)}, []api.Loan{lent("owl", "kew", 4, 5, 5), l[0]}, api.OK},
		{crowd(), l[:1], nil, api.ErrLimit}, {l[:1], row(), nil, api.ErrLimit}, {crowd(), crowd(), nil, api.ErrLimit}, {crowd()[:199], l[:2], nil, api.ErrLimit}, {crowd()[:199], l[:1], append(l[:1:1], crowd()[:199]...), api.OK},
	} {
		if k, e := loan.Merged(c.a, c.b); !sameLoans(k, e, c.want, c.e) {
			t.Errorf("Merged(%v, %v) = %v, %d; want %d", c.a, c.b, k, e, c.e)
		}
	}
	for _, w := range wrongLists() {
		for _, k := range [][]api.Loan{nil, l, crowd(), w} {
			if m, e := loan.Merged(w, k); !sameLoans(m, e, nil, api.ErrInvalid) {
				t.Errorf("Merged(%v, ..) = %v, %d", w, m, e)
			}
			if m, e := loan.Merged(k, w); !sameLoans(m, e, nil, api.ErrInvalid) {
				t.Errorf("Merged(.., %v) = %v, %d", w, m, e)
			}
		}
	}
}

// mergedOf merges anew, by taking the earlier one of the first loans in turn.
func mergedOf(a, b []api.Loan) ([]api.Loan, api.Errno) {
	var l []api.Loan
	for len(a)+len(b) > 0 {
		if len(b) == 0 || len(a) > 0 && a[0].Out <= b[0].Out {
			l, a = append(l, a[0]), a[1:]
		} else {
			l, b = append(l, b[0]), b[1:]
		}
	}
	if _, _, clashes := overlapOf(l); clashes {
		return nil, api.ErrState
	}
	return l, api.OK
}

func TestP94MergedAll(t *testing.T) {
	count := map[api.Errno]int{}
	d := dice(42)
	for range 3000 {
		a, _ := d.loans(5)
		b, _ := d.loans(5)
		want, wantE := mergedOf(a, b)
		if k, e := loan.Merged(a, b); !sameLoans(k, e, want, wantE) {
			t.Fatalf("Merged(%v, %v) = %v, %d; want %v, %d", a, b, k, e, want, wantE)
		}
		count[wantE]++
	}
	if count[api.OK] < 500 || count[api.ErrState] < 500 {
		t.Errorf("errors: %v", count)
	}
}

// TestP94MergedMany merges many loans of few days: on each day those of the first list come first, in their order.
func TestP94MergedMany(t *testing.T) {
	d := dice(43)
	for range 100 {
		var lists [2][]api.Loan
		for i, letter := range []string{"a", "b"} {
			day := 0
			for n := range d.throw(101) {
				day += d.throw(20) / 19
				lists[i] = append(lists[i], lent(letter+strconv.Itoa(n), d.borrower(), day, day+1, 0))
			}
		}
		want, wantE := mergedOf(lists[0], lists[1])
		if k, e := loan.Merged(lists[0], lists[1]); wantE != api.OK || !sameLoans(k, e, want, api.OK) {
			t.Fatalf("Merged(%v) = %v, %d; want %v", lists, k, e, want)
		}
	}
}
