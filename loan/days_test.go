package loan_test

import (
	"testing"

	"armature/api"
	"armature/loan"
)

func TestP93Days(t *testing.T) {
	for _, c := range []struct {
		piece    string
		from, to int
		want     int
	}{{"owl", 0, 100, 95}, {"owl", 0, 30, 25}, {"owl", 0, 5, 0}, {"owl", 0, 6, 1}, {"owl", 5, 6, 1}, {"owl", 4, 5, 0}, {"owl", 29, 31, 2}, {"owl", 10, 12, 2}, {"owl", 7, 7, 0}, {"owl", 0, 0, 0}, {"owl", lastDay, lastDay, 0}, {"owl", lastDay - 1, lastDay, 1}, {"owl", 0, lastDay, lastDay - 5}, {"fox", 0, 8, 1}, {"fox", 0, lastDay, lastDay - 7}, {"emu", 0, lastDay, 0}} {
		if n, e := loan.Days(owls(), c.piece, c.from, c.to); n != c.want || e != api.OK {
			t.Errorf("Days(%v) = %d, %d", c, n, e)
		}
		if n, e := loan.Home(owls(), c.piece, c.from, c.to); n != c.to-c.from-c.want || e != api.OK {
			t.Errorf("Home(%v) = %d, %d", c, n, e)
		}
	}
	if n, e := loan.Days(owls()[:1], "owl", 0, 100); n != 25 || e != api.OK {
		t.Errorf("Days of one loan = %d, %d", n, e)
	}
	if n, e := loan.Days(row(), "owl", 0, lastDay); n != lastDay || e != api.OK {
		t.Errorf("Days of what is never at home = %d, %d", n, e)
	}
	if n, e := loan.Home(row(), "owl", 1, lastDay); n != 0 || e != api.OK {
		t.Errorf("Home of what is never at home = %d, %d", n, e)
	}
}

// TestP93Parts counts day by day, and adds up the days of parts of a time.
func TestP93Parts(t *testing.T) {
	d := dice(31)
	for range 2000 {
		l, first := d.loans(20)
		piece := d.piece()
		from, mid, to := d.around(first), d.around(first), d.around(first)
		from, mid, to = min(from, mid, to), max(min(from, mid), min(max(from, mid), to)), max(from, mid, to)
		days, e := loan.Days(l, piece, from, to)
		home, e2 := loan.Home(l, piece, from, to)
		if e != api.OK || e2 != api.OK || days != daysOf(l, piece, from, to) || days+home != to-from {
			t.Fatalf("Days(%v, %s, %d, %d) = %d, %d; Home = %d, %d", l, piece, from, to, days, e, home, e2)
		}
		a, _ := loan.Days(l, piece, from, mid)
		b, _ := loan.Days(l, piece, mid, to)
		x, _ := loan.Home(l, piece, from, mid)
		y, _ := loan.Home(l, piece, mid, to)
		if a+b != days || x+y != home {
			t.Fatalf("Days and Home(%v, %s, %d, %d, %d): %d and %d, %d and %d", l, piece, from, mid, to, a, b, x, y)
		}
	}
}

func TestP93Charge(t *testing.T) {
	for _, c := range []struct {
		l                  []api.Loan
		to                 string
		from, until, pence int
		want               int
	}{
		{owls()[:1], "york", 0, 100, 10, 100}, {owls(), "york", 0, 100, 10, 100}, {owls(), "york", 0, 20, 10, 0}, {owls(), "york", 0, 21, 10, 10}, {owls(), "york", 20, 21, 10, 10}, {owls(), "york", 25, 100, 10, 50}, {owls(), "york", 29, 30, 10, 10}, {owls(), "york", 30, 100, 10, 0}, {owls(), "york", 22, 25, 7, 21}, {owls(), "york", 25, 25, 10, 0},
		{owls(), "bath", 8, 12, 3, 9}, {owls(), "bath", 0, 9, 3, 0}, {owls(), "bath", 39, 42, 1, 5}, {owls(), "bath", 0, lastDay, 1, 2*lastDay - 49}, {owls(), "bath", 0, lastDay, 0, 0}, {owls(), "kew", 0, lastDay, 10, 0}, {nil, "york", 0, lastDay, 10, 0}, {owls(), "owl", 0, lastDay, 10, 0},
		{crowd(), "york", 0, lastDay, maxPence, 200 * (lastDay - 9) * maxPence}, {row(), "york", 0, lastDay, 1, 200 * 400}, {[]api.Loan{lent("owl", "york", lastDay-2, lastDay-1, 0)}, "york", 0, lastDay, 5, 5}, {[]api.Loan{lent("owl", "york", lastDay-2, lastDay-1, lastDay)}, "york", lastDay, lastDay, 5, 0},
		// What came back on its day, or before, costs nothing, and takes nothing off either.
		{[]api.Loan{lent("owl", "york", 5, 20, 20)}, "york", 0, 100, 10, 0}, {[]api.Loan{lent("owl", "york", 5, 20, 7)}, "york", 0, 100, 10, 0}, {[]api.Loan{lent("owl", "york", 5, 20, 7), lent("fox", "york", 5, 20, 22)}, "york", 0, 100, 10, 20}, {[]api.Loan{lent("owl", "york", 5, 20, 21)}, "york", 0, 100, 10, 10},
	} {
		if n, e := loan.Charge(c.l, c.to, c.from, c.until, c.pence); n != c.want || e != api.OK {
			t.Errorf("Charge(%v) = %d, %d", c, n, e)
		}
	}
}

func TestP93ChargeAll(t *testing.T) {
	d := dice(32)
	for range 1000 {
		l, first := d.loans(20)
		to, from, until, pence := d.borrower(), d.around(first), d.around(first), d.throw(20)
		from, until = min(from, until), max(from, until)
		want := 0
		for _, x := range l {
			for day := from; day < until; day++ {
				if x.To == to && overdueOn(x, day) {
					want += pence
				}
			}
		}
		if n, e := loan.Charge(l, to, from, until, pence); n != want || e != api.OK {
			t.Fatalf("Charge(%v, %s, %d, %d, %d) = %d, %d; want %d", l, to, from, until, pence, n, e, want)
		}
	}
}

func TestP95Free(t *testing.T) {
	late := []api.Loan{lent("owl", "york", 5, 20, 30), lent("owl", "kew", 35, 40, 50), lent("owl", "bath", 50, 60, 61), lent("owl", "kew", 90000, 90001, 90002)}
	end := []api.Loan{lent("owl", "york", lastDay-3, lastDay-2, lastDay)}
	for _, c := range []struct {
		l                []api.Loan
		piece            string
		from, days, want int
	}{
		{owls(), "owl", 0, 1, 0}, {owls(), "owl", 0, 5, 0}, {owls(), "owl", 4, 1, 4}, {owls(), "fox", 0, 7, 0}, {owls(), "emu", 0, maxDays, 0}, {owls(), "emu", 17, 1, 17}, {nil, "owl", lastDay, 1, lastDay}, {nil, "owl", lastDay - 9999, maxDays, lastDay - 9999},
		{late, "owl", 0, 5, 0}, {late, "owl", 0, 6, 61}, {late, "owl", 1, 4, 1}, {late, "owl", 1, 5, 30}, {late, "owl", 5, 1, 30}, {late, "owl", 29, 5, 30}, {late, "owl", 30, 5, 30}, {late, "owl", 31, 5, 61}, {late, "owl", 31, 4, 31}, {late, "owl", 34, 1, 34}, {late, "owl", 35, 1, 61}, {late, "owl", 49, 1, 61}, {late, "owl", 61, maxDays, 61}, {late, "owl", 85000, 5000, 85000}, {late, "owl", 85000, 5001, 90002}, {late, "owl", 89999, 1, 89999}, {late, "owl", 85000, 9999, 90002}, {late, "fox", 7, 5, 7},
		{end, "owl", 0, 100, 0}, {end, "owl", lastDay - 3, 1, lastDay}, {end, "owl", lastDay, 1, lastDay}, {end, "owl", lastDay - 10, 7, lastDay - 10},
	} {
		if n, e := loan.Free(c.l, c.piece, c.from, c.days); n != c.want || e != api.OK {
			t.Errorf("Free(%v) = %d, %d", c, n, e)
		}
	}
	for _, c := range []struct {
		l          []api.Loan
		piece      string
		from, days int
	}{{owls(), "owl", 0, 6}, {owls(), "owl", 1, 5}, {owls(), "owl", 5, 1}, {owls(), "owl", lastDay, 1}, {owls(), "fox", 7, 1}, {owls(), "fox", 0, 8}, {late, "owl", 85000, maxDays}, {late, "owl", 90000, maxDays}, {late, "owl", 90003, 9999}, {nil, "owl", lastDay, 2}, {nil, "owl", lastDay - 9998, maxDays}, {end, "owl", lastDay - 3, 2}, {end, "owl", lastDay - 10, 8}, {end, "owl", lastDay, maxDays}, {row(), "owl", 0, 2}} {
		if n, e := loan.Free(c.l, c.piece, c.from, c.days); n != 0 || e != api.ErrNone {
			t.Errorf("Free(%v) = %d, %d", c, n, e)
		}
	}
	if n, e := loan.Free(row(), "owl", 0, 1); n != lastDay || e != api.OK {
		t.Errorf("Free of what is at home on the last day alone = %d, %d", n, e)
	}
}

// TestP95FreeAll asks day by day whether a piece is at home for long enough.
func TestP95FreeAll(t *testing.T) {
	none := 0
	d := dice(33)
	for range 3000 {
		l, first := d.loans(20)
		piece, from, days := d.piece(), d.around(first), d.between(1, 12)
		day := from
		for day+days <= lastDay+1 && day <= first+window && daysOf(l, piece, day, day+days) > 0 {
			day++
		}
		// Behind the window nothing changes any more.
		want, wantE := day, api.OK
		if day+days > lastDay+1 || day <= lastDay && at(l, piece, day) != "" {
			want, wantE = 0, api.ErrNone
			none++
		}
		if n, e := loan.Free(l, piece, from, days); n != want || e != wantE {
			t.Fatalf("Free(%v, %s, %d, %d) = %d, %d; want %d, %d", l, piece, from, days, n, e, want, wantE)
		}
	}
	if none < 300 || none > 2700 {
		t.Errorf("%d are never free", none)
	}
}
