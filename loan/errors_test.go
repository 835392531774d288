package loan_test

import (
	"math"
	"testing"

	"armature/api"
	"armature/loan"
)

// ask is a call with loans, a name and numbers, of which it takes what it needs.
type ask struct {
	name         string
	call         func(l []api.Loan, name string, n []int) (any, api.Errno)
	named        bool
	right, wrong [][]int
}

// days are the numbers of calls with one day, which are right or wrong.
func days() (right, wrong [][]int) {
	for _, n := range wrongDays() {
		wrong = append(wrong, []int{n})
	}
	return [][]int{{0}, {5}, {lastDay}}, wrong
}

// times are the numbers of calls with two days in their order.
func times() (right, wrong [][]int) {
	for _, n := range wrongDays() {
		wrong = append(wrong, []int{n, 5}, []int{5, n}, []int{n, n}, []int{0, n}, []int{n, lastDay})
	}
	return [][]int{{0, 0}, {0, 100}, {0, lastDay}, {lastDay, lastDay}}, append(wrong, []int{6, 5}, []int{1, 0}, []int{lastDay, 0}, []int{lastDay, lastDay - 1}, []int{math.MinInt, math.MaxInt}, []int{math.MaxInt, math.MinInt}, []int{-1, lastDay + 1}, []int{0, lastDay + 1})
}

// stays are the numbers of Free: a day, and how many.
func stays() (right, wrong [][]int) {
	for _, n := range append(wrongDays(), 0, maxDays+1) {
		wrong = append(wrong, []int{0, n}, []int{lastDay, n})
	}
	for _, n := range wrongDays() {
		wrong = append(wrong, []int{n, 1}, []int{n, maxDays}, []int{n, n})
	}
	return [][]int{{0, 1}, {90000, maxDays}}, wrong
}

// charges are the numbers of Charge: two days, and pence.
func charges() (right, wrong [][]int) {
	r, w := times()
	for _, n := range r {
		right = append(right, append(n, 0), append(n, maxPence))
	}
	for _, n := range w {
		wrong = append(wrong, append(n, 10))
	}
	for _, n := range []int{-1, maxPence + 1, lastDay, math.MinInt, math.MaxInt} {
		wrong = append(wrong, []int{0, 100, n}, []int{5, 5, n}, []int{6, 5, n})
	}
	return right, wrong
}

// asks are the calls with errors in the order of the chapter; the right numbers are so for the loans of owls and the name hen.
func asks() []ask {
	list := []ask{
		{name: "Where", named: true, call: func(l []api.Loan, s string, n []int) (any, api.Errno) { return result(loan.Where(l, s, n[0])) }},
		{name: "Out", call: func(l []api.Loan, s string, n []int) (any, api.Errno) { return result(loan.Out(l, n[0])) }},
		{name: "Overdue", call: func(l []api.Loan, s string, n []int) (any, api.Errno) { return result(loan.Overdue(l, n[0])) }},
		{name: "Of", named: true, call: func(l []api.Loan, s string, n []int) (any, api.Errno) { return result(loan.Of(l, s)) }},
		{name: "To", named: true, call: func(l []api.Loan, s string, n []int) (any, api.Errno) { return result(loan.To(l, s)) }},
		{name: "Back", named: true, call: func(l []api.Loan, s string, n []int) (any, api.Errno) { return result(loan.Back(l, s, n[0])) }},
		{name: "Renew", named: true, call: func(l []api.Loan, s string, n []int) (any, api.Errno) { return result(loan.Renew(l, s, n[0])) }},
		{name: "Days", named: true, call: func(l []api.Loan, s string, n []int) (any, api.Errno) { return result(loan.Days(l, s, n[0], n[1])) }},
		{name: "Home", named: true, call: func(l []api.Loan, s string, n []int) (any, api.Errno) { return result(loan.Home(l, s, n[0], n[1])) }},
		{name: "Free", named: true, call: func(l []api.Loan, s string, n []int) (any, api.Errno) { return result(loan.Free(l, s, n[0], n[1])) }},
		{name: "Charge", named: true, call: func(l []api.Loan, s string, n []int) (any, api.Errno) {
			return result(loan.Charge(l, s, n[0], n[1], n[2]))
		}},
	}
	for i, a := range list {
		numbers := days
		switch a.name {
		case "Of", "To":
			numbers = func() (right, wrong [][]int) { return [][]int{nil}, nil }
		case "Days", "Home":
			numbers = times
		case "Free":
			numbers = stays
		case "Charge":
			numbers = charges
		}
		list[i].right, list[i].wrong = numbers()
	}
	return list
}

func result[T any](x T, e api.Errno) (any, api.Errno) { return x, e }

func TestP91ErrorsInOrder(t *testing.T) {
	for _, a := range asks() {
		check := func(l []api.Loan, name string, n []int, want api.Errno) {
			if x, e := a.call(l, name, n); e != want || e != api.OK && !zero(x) {
				t.Errorf("%s(%v, %q, %v) = %v, %d; want %d", a.name, l, name, n, x, e, want)
			}
		}
		numbers := append(a.right, a.wrong...)
		for _, l := range wrongLists() {
			check(l, "hen", a.right[0], api.ErrInvalid)
			check(l, "Hen", numbers[len(numbers)-1], api.ErrInvalid)
			check(l, "owl", numbers[len(numbers)/2], api.ErrInvalid)
		}
		for _, l := range [][]api.Loan{nil, owls(), crowd(), row()} {
			for _, n := range numbers {
				for _, name := range wrongNames()[:30] {
					if a.named {
						check(l, name, n, api.ErrName)
					}
				}
			}
			for _, n := range a.wrong {
				check(l, "hen", n, api.ErrRange)
				check(l, "owl", n, api.ErrRange)
			}
			for _, n := range a.right {
				want := api.OK
				if a.name == "Back" || a.name == "Renew" {
					want = api.ErrNone
				}
				check(l, "hen", n, want)
			}
		}
		for _, name := range wrongNames() {
			if a.named {
				check(owls(), name, a.right[0], api.ErrName)
			}
		}
	}
}
