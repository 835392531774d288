package loan_test

import (
	"math"
	"reflect"
	"slices"
	"strings"
	"testing"

	"armature/api"
	"armature/loan"
)

// use is what all calls of the package are made with.
type use struct {
	l, other              []api.Loan
	x                     api.Loan
	name                  string
	day, to, count, pence int
	text                  string
}

func all(results ...any) []any { return results }

// calls makes every call, and returns the results of each.
func (u use) calls() map[string][]any {
	return map[string][]any{
		"Name": all(loan.Name(u.name)), "ValidLoan": all(loan.ValidLoan(u.x)), "Valid": all(loan.Valid(u.l)), "Overlap": all(loan.Overlap(u.l)), "Overlap of both": all(loan.Overlap(slices.Concat(u.l, u.other))), "Where": all(loan.Where(u.l, u.name, u.day)), "Out": all(loan.Out(u.l, u.day)), "Overdue": all(loan.Overdue(u.l, u.day)), "Lend": all(loan.Lend(u.l, u.x)), "Back": all(loan.Back(u.l, u.name, u.day)), "Renew": all(loan.Renew(u.l, u.name, u.day)),
		"Of": all(loan.Of(u.l, u.name)), "To": all(loan.To(u.l, u.name)), "Days": all(loan.Days(u.l, u.name, u.day, u.to)), "Home": all(loan.Home(u.l, u.name, u.day, u.to)), "Busiest": all(loan.Busiest(u.l)), "Free": all(loan.Free(u.l, u.name, u.day, u.count)), "Charge": all(loan.Charge(u.l, u.name, u.day, u.to, u.pence)), "Merged": all(loan.Merged(u.l, u.other)), "Format": all(loan.Format(u.l)), "Parse": all(loan.Parse(u.text)),
	}
}

// thrown is what all calls succeed with, or nearly all.
func thrown(d *dice) use {
	l, first := d.loans(20)
	other, _ := d.loans(4)
	last := first
	if len(l) > 0 {
		last = l[len(l)-1].Out
	}
	u := use{l: l, other: other, x: lent(d.piece(), d.borrower(), last, last+1, 0), day: first + window - 1, to: first + window, count: d.between(1, 5), pence: d.throw(99), text: loan.Format(l)}
	u.name = append(pieces(), borrowers()...)[d.throw(8)]
	return u
}

func zero(x any) bool {
	v := reflect.ValueOf(x)
	return v.IsZero() || v.Kind() == reflect.Slice && v.Len() == 0
}

// leftovers returns the calls that fail and have other results all the same.
func leftovers(results map[string][]any) []string {
	var l []string
	for name, r := range results {
		last := len(r) - 1
		e, can := r[last].(api.Errno)
		if name == "Parse" && e == api.ErrSyntax {
			last = 1 // the line comes with this error
		}
		if can && e != api.OK && slices.ContainsFunc(r[:last], func(x any) bool { return !zero(x) }) {
			l = append(l, name)
		}
	}
	return l
}

func TestP91EndsWithoutPanic(t *testing.T) {
	texts := []string{"", "\n", "\xff", owlsText, owlsText + "x", "owl", strings.Repeat("a ", 1<<15), strings.Repeat("\n", 1<<20), strings.Repeat("x", api.MaxText+1)}
	numbers := []int{math.MinInt, math.MinInt + 1, math.MinInt32, -1, 0, 1, 5, 7, 30, 31, maxDays, maxDays + 1, lastDay - 1, lastDay, lastDay + 1, 1 << 32, math.MaxInt - 1, math.MaxInt}
	lists := append(wrongLists(), nil, owls(), crowd(), row(), longest())
	names := append(wrongNames()[:40], "owl", "fox", "york", "bath", "-")
	d := dice(61)
	number := func() int { return numbers[d.throw(len(numbers))] }
	name := func() string { return names[d.throw(len(names))] }
	for range 5000 {
		u := use{l: lists[d.throw(len(lists))], other: lists[d.throw(len(lists))], name: name(), day: number(), to: number(), count: number(), pence: number(), text: texts[d.throw(len(texts))]}
		if d.throw(3) == 0 {
			u.l = lists[len(lists)-1-d.throw(5)]
		}
		u.x = lent(name(), name(), number(), number(), number())
		if found := leftovers(u.calls()); len(found) > 0 {
			t.Fatalf("%v of %v", found, u)
		}
	}
}

func TestP1SameCallSameResult(t *testing.T) {
	d := dice(62)
	for range 200 {
		u := thrown(&d)
		first := u.calls()
		for range 5 {
			if again := u.calls(); !reflect.DeepEqual(first, again) {
				t.Fatalf("%v, then %v", first, again)
			}
		}
	}
}

func TestP1NilIsEmpty(t *testing.T) {
	for _, n := range []int{0, 1, 5, lastDay} {
		u := use{x: lent("owl", "york", 5, 6, 0), name: "owl", day: n, to: lastDay, count: 1}
		a := u.calls()
		u.l, u.other = []api.Loan{}, []api.Loan{}
		b := u.calls()
		for name := range a {
			if !slices.EqualFunc(a[name], b[name], func(x, y any) bool { return zero(x) && zero(y) || reflect.DeepEqual(x, y) }) {
				t.Errorf("%s: %v of nil, %v of the empty ones", name, a[name], b[name])
			}
		}
	}
}

// roomy puts a list at the beginning of longer memory.
func roomy(l []api.Loan) []api.Loan {
	more := lent("spare", "spare", 1, 2, 3)
	return slices.Concat(l, []api.Loan{more, more})[:len(l)]
}

// memory copies all memory of what the calls are made with.
func (u use) memory() []any {
	return all(slices.Clone(u.l[:cap(u.l)]), slices.Clone(u.other[:cap(u.other)]))
}

// spoil writes over all memory of all results.
func spoil(results map[string][]any) {
	for _, r := range results {
		for _, x := range r {
			switch v := x.(type) {
			case []int:
				fill(v, -9)
			case []api.Loan:
				fill(v, lent("spoilt", "spoilt", -9, -9, -9))
			}
		}
	}
}

func fill[T any](l []T, with T) {
	for i := range l[:cap(l)] {
		l[:cap(l)][i] = with
	}
}

func TestP91ArgumentsStay(t *testing.T) {
	d := dice(63)
	for range 1000 {
		u := thrown(&d)
		u.l, u.other = roomy(u.l), roomy(u.other)
		before := u.memory()
		spoil(u.calls())
		if after := u.memory(); !reflect.DeepEqual(before, after) {
			t.Fatalf("%v became %v", before, after)
		}
	}
}

func TestP91ResultsAreNew(t *testing.T) {
	d := dice(64)
	for range 500 {
		u := thrown(&d)
		first := u.calls()
		spoil(u.calls())
		if again := u.calls(); !reflect.DeepEqual(first, again) {
			t.Fatalf("%v became %v", first, again)
		}
	}
	// Lists that stay as they are, are new memory too.
	l := owls()
	for _, call := range []func() ([]api.Loan, api.Errno){
		func() ([]api.Loan, api.Errno) { return loan.Of(l[:1], "owl") }, func() ([]api.Loan, api.Errno) { return loan.To(l[:1], "york") }, func() ([]api.Loan, api.Errno) { return loan.Merged(l, nil) }, func() ([]api.Loan, api.Errno) { return loan.Merged(nil, l) }, func() ([]api.Loan, api.Errno) { return loan.Back(l, "fox", 9) }, func() ([]api.Loan, api.Errno) { return loan.Lend(l[:2], l[2]) },
	} {
		k, e := call()
		fill(k, api.Loan{})
		if e != api.OK || len(k) == 0 || !slices.Equal(l, owls()) {
			t.Fatalf("%d, and the loans became %v", e, l)
		}
	}
}
