package loan

import "armature/api"

// Where returns the borrower of a piece on a day, or nothing if it is at home.
func Where(l []api.Loan, piece string, day int) (string, api.Errno) {
	if e := checked(l, Name(piece), areDays(day)); e != api.OK {
		return "", e
	}
	for _, x := range those(l, lent.isOf, piece) {
		if x.isOut(day) {
			return x.To, api.OK
		}
	}
	return "", api.OK
}

// Out returns the indexes of the loans that are out on a day.
func Out(l []api.Loan, day int) ([]int, api.Errno) { return on(l, lent.isOut, day) }

// Overdue returns the indexes of the loans that are overdue on a day.
func Overdue(l []api.Loan, day int) ([]int, api.Errno) { return on(l, lent.isOverdue, day) }

// Of returns the loans of a piece.
func Of(l []api.Loan, piece string) ([]api.Loan, api.Errno) { return named(l, lent.isOf, piece) }

// To returns the loans to a borrower.
func To(l []api.Loan, to string) ([]api.Loan, api.Errno) { return named(l, lent.isTo, to) }

// Busiest returns the first day on which the most loans are out, and how many.
func Busiest(l []api.Loan) (day, count int, e api.Errno) {
	if !Valid(l) {
		return 0, 0, api.ErrInvalid
	}
	if len(l) == 0 {
		return 0, 0, api.ErrNone
	}
	// More loans than on the day before are out only on a day on which one goes out.
	for _, x := range l {
		if out := len(indexes(l, lent.isOut, x.Out)); out > count {
			day, count = x.Out, out
		}
	}
	return day, count, api.OK
}

func on(l []api.Loan, holds func(lent, int) bool, day int) ([]int, api.Errno) {
	if e := checked(l, true, areDays(day)); e != api.OK {
		return nil, e
	}
	return indexes(l, holds, day), api.OK
}

func indexes(l []api.Loan, holds func(lent, int) bool, day int) []int {
	var list []int
	for i := range those(l, holds, day) {
		list = append(list, i)
	}
	return list
}

func named(l []api.Loan, holds func(lent, string) bool, name string) ([]api.Loan, api.Errno) {
	if e := checked(l, Name(name), true); e != api.OK {
		return nil, e
	}
	var list []api.Loan
	for _, x := range those(l, holds, name) {
		list = append(list, api.Loan(x))
	}
	return list, api.OK
}
