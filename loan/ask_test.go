package loan_test

import (
	"slices"
	"testing"

	"armature/api"
	"armature/loan"
)

func TestP92Where(t *testing.T) {
	for _, c := range []struct {
		piece string
		day   int
		want  string
	}{{"owl", 0, ""}, {"owl", 4, ""}, {"owl", 5, "york"}, {"owl", 20, "york"}, {"owl", 29, "york"}, {"owl", 30, "bath"}, {"owl", lastDay, "bath"}, {"fox", 6, ""}, {"fox", 7, "bath"}, {"fox", 9, "bath"}, {"fox", lastDay, "bath"}, {"emu", 9, ""}, {"ow", 9, ""}, {"york", 9, ""}} {
		if s, e := loan.Where(owls(), c.piece, c.day); s != c.want || e != api.OK {
			t.Errorf("Where(%v) = %q, %d", c, s, e)
		}
	}
	back := []api.Loan{lent("owl", "york", 5, 20, 30), lent("owl", "bath", 32, 40, 41)}
	for day, want := range map[int]string{29: "york", 30: "", 31: "", 32: "bath", 40: "bath", 41: "", lastDay: ""} {
		if s, e := loan.Where(back, "owl", day); s != want || e != api.OK {
			t.Errorf("Where on %d = %q, %d", day, s, e)
		}
	}
	if s, e := loan.Where(nil, "owl", 0); s != "" || e != api.OK {
		t.Errorf("Where without loans = %q, %d", s, e)
	}
}

// TestP92OnePlace checks each piece on each day: at most one loan of it is out, and it is where this one says.
func TestP92OnePlace(t *testing.T) {
	d := dice(21)
	for range 300 {
		l, first := d.loans(20)
		for day := max(0, first-2); day <= min(first+window+2, lastDay); day++ {
			for _, piece := range pieces() {
				var to []string
				for _, x := range l {
					if x.Piece == piece && outOn(x, day) {
						to = append(to, x.To)
					}
				}
				s, e := loan.Where(l, piece, day)
				if e != api.OK || len(to) > 1 || len(to) == 0 && s != "" || len(to) == 1 && s != to[0] {
					t.Fatalf("Where(%v, %s, %d) = %q, %d; want one of %v", l, piece, day, s, e, to)
				}
			}
		}
	}
}

func TestP92Out(t *testing.T) {
	for _, c := range []struct {
		day          int
		out, overdue []int
	}{{0, nil, nil}, {4, nil, nil}, {5, []int{0}, nil}, {7, []int{0, 1}, nil}, {8, []int{0, 1}, nil}, {9, []int{0, 1}, []int{1}}, {19, []int{0, 1}, []int{1}}, {20, []int{0, 1}, []int{0, 1}}, {29, []int{0, 1}, []int{0, 1}}, {30, []int{1, 2}, []int{1}}, {39, []int{1, 2}, []int{1}}, {40, []int{1, 2}, []int{1, 2}}, {lastDay, []int{1, 2}, []int{1, 2}}} {
		if l, e := loan.Out(owls(), c.day); e != api.OK || !slices.Equal(l, c.out) {
			t.Errorf("Out(%d) = %v, %d", c.day, l, e)
		}
		if l, e := loan.Overdue(owls(), c.day); e != api.OK || !slices.Equal(l, c.overdue) {
			t.Errorf("Overdue(%d) = %v, %d", c.day, l, e)
		}
	}
	// A piece that comes back on its day, or before, is never overdue.
	for _, back := range []int{6, 19, 20} {
		for day := range 40 {
			if l, e := loan.Overdue([]api.Loan{lent("owl", "york", 5, 20, back)}, day); e != api.OK || len(l) > 0 {
				t.Errorf("Overdue(%d) of what is back on %d = %v, %d", day, back, l, e)
			}
		}
	}
	if l, e := loan.Out(crowd(), 8); e != api.OK || len(l) != api.MaxLoans || !slices.IsSorted(l) {
		t.Errorf("Out of all = %v, %d", l, e)
	}
}

func TestP92OutAll(t *testing.T) {
	d := dice(22)
	for range 1000 {
		l, first := d.loans(20)
		day := d.around(first)
		var out, overdue []int
		for i, x := range l {
			if outOn(x, day) {
				out = append(out, i)
			}
			if overdueOn(x, day) {
				overdue = append(overdue, i)
			}
		}
		if k, e := loan.Out(l, day); e != api.OK || !slices.Equal(k, out) {
			t.Fatalf("Out(%v, %d) = %v, %d; want %v", l, day, k, e, out)
		}
		if k, e := loan.Overdue(l, day); e != api.OK || !slices.Equal(k, overdue) {
			t.Fatalf("Overdue(%v, %d) = %v, %d; want %v", l, day, k, e, overdue)
		}
	}
}

func TestP92Of(t *testing.T) {
	l := append(owls(), lent("bath", "owl", 31, 32, 33))
	for _, c := range []struct {
		name   string
		of, to []api.Loan
	}{{"owl", []api.Loan{l[0], l[2]}, l[3:]}, {"fox", l[1:2], nil}, {"york", nil, l[:1]}, {"bath", l[3:], l[1:3]}, {"emu", nil, nil}, {"ow", nil, nil}, {"owls", nil, nil}, {"-", nil, nil}} {
		if k, e := loan.Of(l, c.name); e != api.OK || !slices.Equal(k, c.of) {
			t.Errorf("Of(%s) = %v, %d", c.name, k, e)
		}
		if k, e := loan.To(l, c.name); e != api.OK || !slices.Equal(k, c.to) {
			t.Errorf("To(%s) = %v, %d", c.name, k, e)
		}
	}
	if k, e := loan.Of(row(), "owl"); e != api.OK || !slices.Equal(k, row()) {
		t.Errorf("Of all = %v, %d", k, e)
	}
	if k, e := loan.To(crowd(), "york"); e != api.OK || !slices.Equal(k, crowd()) {
		t.Errorf("To all = %v, %d", k, e)
	}
}

func TestP95Busiest(t *testing.T) {
	for _, c := range []struct {
		l          []api.Loan
		day, count int
	}{
		{owls(), 7, 2}, {owls()[:1], 5, 1}, {crowd(), 8, 200}, {row(), 0, 1}, {[]api.Loan{lent("owl", "york", lastDay-1, lastDay, 0)}, lastDay - 1, 1},
		// What comes back on a day is not out any more, and the first of several such days counts.
		{[]api.Loan{lent("owl", "york", 5, 6, 7), lent("fox", "york", 7, 8, 9), lent("emu", "york", 8, 9, 0)}, 8, 2},
		{[]api.Loan{lent("owl", "york", 0, 1, 2), lent("fox", "york", 1, 2, 3), lent("emu", "york", 3, 4, 0), lent("hen", "york", 3, 4, 5)}, 1, 2},
		{[]api.Loan{lent("owl", "york", 0, 1, 2), lent("fox", "york", 1, 2, 3), lent("emu", "york", 2, 4, 0), lent("hen", "york", 2, 4, 5)}, 2, 3},
	} {
		if day, count, e := loan.Busiest(c.l); day != c.day || count != c.count || e != api.OK {
			t.Errorf("Busiest(%v) = %d, %d, %d; want %d, %d", c.l, day, count, e, c.day, c.count)
		}
	}
	for _, l := range [][]api.Loan{nil, {}} {
		if day, count, e := loan.Busiest(l); day != 0 || count != 0 || e != api.ErrNone {
			t.Errorf("Busiest without loans = %d, %d, %d", day, count, e)
		}
	}
	for _, l := range wrongLists() {
		if day, count, e := loan.Busiest(l); day != 0 || count != 0 || e != api.ErrInvalid {
			t.Errorf("Busiest(%v) = %d, %d, %d", l, day, count, e)
		}
	}
}

// TestP95BusiestAll counts the loans of each day.
func TestP95BusiestAll(t *testing.T) {
	d := dice(23)
	for range 1000 {
		l, first := d.loans(20)
		if len(l) == 0 {
			continue
		}
		busiest, most := 0, 0
		for day := first; day <= first+window; day++ {
			n := 0
			for _, x := range l {
				if outOn(x, day) {
					n++
				}
			}
			if n > most {
				busiest, most = day, n
			}
		}
		if day, count, e := loan.Busiest(l); day != busiest || count != most || e != api.OK {
			t.Fatalf("Busiest(%v) = %d, %d, %d; want %d, %d", l, day, count, e, busiest, most)
		}
	}
}
