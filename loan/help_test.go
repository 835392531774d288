package loan_test

import (
	"math"
	"slices"
	"strconv"
	"strings"

	"armature/api"
)

const (
	lastDay  = api.MaxDay
	maxName  = 30
	maxDays  = 10000
	maxPence = 10000
	window   = 40 // days within which thrown loans lie
)

func lent(piece, to string, out, due, back int) api.Loan {
	return api.Loan{Piece: piece, To: to, Out: out, Due: due, Back: back}
}

// owls are the owl's two loans, with the fox's between.
func owls() []api.Loan {
	return []api.Loan{lent("owl", "york", 5, 20, 30), lent("fox", "bath", 7, 9, 0), lent("owl", "bath", 30, 40, 0)}
}

// crowd is as many loans as there may be, of as many pieces, all out from the same day on.
func crowd() []api.Loan {
	var l []api.Loan
	for i := range api.MaxLoans {
		l = append(l, lent("p"+strconv.Itoa(i), "york", 8, 9, 0))
	}
	return l
}

// row is as many loans as there may be, of one piece that never stays at home.
func row() []api.Loan {
	var l []api.Loan
	for i := range api.MaxLoans {
		l = append(l, lent("owl", "york", i*500, i*500+100, (i+1)*500))
	}
	return l
}

// dice throws numbers that are the same in every run.
type dice uint64

func (d *dice) throw(n int) int {
	*d = *d*6364136223846793005 + 1442695040888963407
	return int(uint64(*d) >> 33 % uint64(n))
}

// between throws a number from the least to the most.
func (d *dice) between(least, most int) int { return least + d.throw(most-least+1) }

func pieces() []string { return []string{"owl", "fox", "emu", "hen", "000005-9-whole"} }

func borrowers() []string { return []string{"york", "bath", "kew"} }

func (d *dice) piece() string { return pieces()[d.throw(5)] }

func (d *dice) borrower() string { return borrowers()[d.throw(3)] }

// first throws a first day, often the very first one or one whose window ends with the last day.
func (d *dice) first() int {
	return [3]int{0, lastDay - window, d.throw(lastDay - window)}[d.throw(3)]
}

// loan throws a loan that goes out on a day of the window, and mostly comes back in it.
func (d *dice) loan(piece string, day, last int) api.Loan {
	x := lent(piece, d.borrower(), day, d.between(day+1, last), d.between(day+1, min(day+1+d.throw(window), last)))
	if d.throw(8) == 0 {
		x.Back = 0
	}
	return x
}

// loans throws valid loans that begin in the window of a first day, which is thrown too.
func (d *dice) loans(most int) ([]api.Loan, int) {
	first := d.first()
	var l []api.Loan
	day := first
	for range d.throw(most + 1) {
		day = min(day+d.throw(5), first+window-1)
		x := d.loan(d.piece(), day, first+window)
		if !slices.ContainsFunc(l, func(y api.Loan) bool { return clash(y, x) }) {
			l = append(l, x)
		}
	}
	return l, first
}

// around throws a day in or near the window.
func (d *dice) around(first int) int {
	return min(max(0, d.between(first-3, first+window+3)), lastDay)
}

// outOn says anew whether a loan is out on a day.
func outOn(x api.Loan, day int) bool { return x.Out <= day && (x.Back == 0 || x.Back > day) }

func overdueOn(x api.Loan, day int) bool { return outOn(x, day) && x.Due <= day }

// clash says anew whether two loans overlap, of which the first one is the earlier one in a list.
func clash(x, y api.Loan) bool {
	return x.Piece == y.Piece && !(x.Back != 0 && x.Back <= y.Out)
}

// overlapOf says anew which two loans overlap first.
func overlapOf(l []api.Loan) (i, j int, found bool) {
	for i := range l {
		for j := i + 1; j < len(l); j++ {
			if clash(l[i], l[j]) {
				return i, j, true
			}
		}
	}
	return 0, 0, false
}

// at says anew who has a piece on a day.
func at(l []api.Loan, piece string, day int) string {
	for _, x := range l {
		if x.Piece == piece && outOn(x, day) {
			return x.To
		}
	}
	return ""
}

// daysOf says anew, day by day, on how many days a piece is out.
func daysOf(l []api.Loan, piece string, from, to int) int {
	n := 0
	for day := from; day < to; day++ {
		if at(l, piece, day) != "" {
			n++
		}
	}
	return n
}

func wrongNames() []string {
	l := []string{"", strings.Repeat("a", maxName+1), strings.Repeat("a", 1<<16), "Owl", "owL", "oWl", "an owl", "owl ", " owl", "owl\n", "owl_", "owl.", "owl/1", "`", "{", ":", "/", ",", "@", "A", "Z", "\x00", "\x7f", "owl\x00", "\xff", "\xc3", "ä", "é", "o\u0301", "\u0261", "١", "–", "\u00ad", strings.Repeat("a", maxName) + " "}
	for b := range 256 {
		if c := byte(b); !strings.ContainsRune("abcdefghijklmnopqrstuvwxyz0123456789-", rune(b)) {
			l = append(l, string([]byte{c}), string([]byte{'a', c}), string([]byte{c, 'a'}))
		}
	}
	return l
}

func wrongDays() []int {
	return []int{-1, lastDay + 1, -2, lastDay + 2, math.MinInt, math.MinInt + 1, math.MinInt32, -lastDay, 1 << 32, 1<<32 + 5, math.MaxInt - 1, math.MaxInt}
}

// wrongLoans are loans none of which is valid.
func wrongLoans() []api.Loan {
	l := []api.Loan{
		{}, lent("owl", "york", 5, 5, 0), lent("owl", "york", 5, 4, 0), lent("owl", "york", 0, 0, 0), lent("owl", "york", lastDay, lastDay, 0), lent("owl", "york", lastDay, lastDay+1, 0), lent("owl", "york", 5, 20, 5), lent("owl", "york", 5, 20, 4), lent("owl", "york", 5, 20, 1), lent("owl", "york", 0, 1, lastDay+1),
		lent("owl", "york", -1, 20, 0), lent("owl", "york", -1, 20, 30), lent("owl", "york", -2, -1, 0), lent("owl", "york", 5, lastDay+1, 30), lent("owl", "york", math.MinInt, math.MaxInt, 0), lent("owl", "york", math.MaxInt, math.MinInt, 0), lent("owl", "york", math.MaxInt, math.MinInt, math.MinInt),
	}
	for _, n := range wrongDays() {
		l = append(l, lent("owl", "york", n, 20, 30), lent("owl", "york", n, 20, 0), lent("owl", "york", n, lastDay, 0), lent("owl", "york", 5, n, 0), lent("owl", "york", 5, n, 30), lent("owl", "york", 0, n, 1), lent("owl", "york", 5, 20, n), lent("owl", "york", 0, 1, n), lent("owl", "york", n, n, n))
	}
	for _, s := range wrongNames() {
		l = append(l, lent(s, "york", 5, 20, 30), lent("owl", s, 5, 20, 0), lent(s, s, 5, 20, 30))
	}
	return l
}

// unordered are lists of valid loans that are too many, or not in their order.
func unordered() [][]api.Loan {
	return [][]api.Loan{
		{lent("owl", "york", 5, 6, 7), lent("fox", "york", 4, 9, 0)}, {lent("owl", "york", 9, 10, 11), lent("owl", "york", 5, 6, 7)}, {lent("owl", "york", 1, 2, 0), lent("fox", "york", 3, 4, 0), lent("emu", "york", 2, 3, 0)}, {lent("owl", "york", lastDay-1, lastDay, 0), lent("fox", "york", 0, 1, 0), lent("emu", "york", lastDay-1, lastDay, 0)},
		append(crowd(), lent("owl", "york", 8, 9, 0)), append(row(), lent("fox", "york", lastDay-1, lastDay, 0)), append(crowd(), crowd()...), slices.Repeat(owls()[:1], 1<<12), append(crowd(), api.Loan{}),
	}
}

// overlapping are lists of valid loans in order that overlap.
func overlapping() [][]api.Loan {
	return [][]api.Loan{
		{lent("owl", "york", 5, 20, 30), lent("owl", "bath", 29, 40, 0)}, {lent("owl", "york", 5, 20, 0), lent("owl", "bath", 30, 40, 0)}, {lent("owl", "york", 5, 20, 30), lent("owl", "york", 5, 20, 30)}, {lent("owl", "york", 5, 20, 6), lent("owl", "york", 5, 20, 30)}, {lent("owl", "york", 5, 20, 0), lent("fox", "york", 7, 20, 0), lent("owl", "york", lastDay-1, lastDay, lastDay)}, {lent("owl", "york", 5, 20, 31), lent("fox", "bath", 7, 9, 0), lent("owl", "bath", 30, 40, 0)}, {lent("owl", "york", 0, 1, lastDay), lent("owl", "york", 1, 2, 3), lent("owl", "york", 4, 5, 6)}, {lent("owl", "york", 0, 1, 2), lent("owl", "york", 2, 3, 5), lent("owl", "york", 4, 5, 6)},
	}
}

// wrongLists are no valid loans.
func wrongLists() [][]api.Loan {
	lists := append(unordered(), overlapping()...)
	for _, x := range wrongLoans() {
		lists = append(lists, []api.Loan{x})
	}
	for _, x := range wrongLoans()[:60] {
		lists = append(lists, append(owls(), x), append([]api.Loan{x}, owls()...), []api.Loan{lent("emu", "kew", 0, 1, 2), x, lent("emu", "kew", 50, 51, 0)})
	}
	return lists
}
