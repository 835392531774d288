package loan

import (
	"cmp"
	"slices"

	"armature/api"
)

// Lend returns the loans with one more.
func Lend(l []api.Loan, x api.Loan) ([]api.Loan, api.Errno) {
	book, ok := entered(l)
	switch {
	case !ok || !ValidLoan(x) || x.Back != 0:
		return nil, api.ErrInvalid
	case len(l) > 0 && x.Out < l[len(l)-1].Out || !book.enter(lent(x)):
		return nil, api.ErrState
	case len(l) == api.MaxLoans:
		return nil, api.ErrLimit
	}
	return slices.Concat(l, []api.Loan{x}), api.OK
}

// Back returns the loans with a piece back on a day.
func Back(l []api.Loan, piece string, day int) ([]api.Loan, api.Errno) {
	return changed(l, piece, lent.back, day)
}

// Renew returns the loans with a later day on which a piece is due.
func Renew(l []api.Loan, piece string, due int) ([]api.Loan, api.Errno) {
	return changed(l, piece, lent.renewed, due)
}

// Merged returns the loans of both lists, those of the first one first on a day.
func Merged(a, b []api.Loan) ([]api.Loan, api.Errno) {
	if !Valid(a) || !Valid(b) {
		return nil, api.ErrInvalid
	}
	if len(a)+len(b) > api.MaxLoans {
		return nil, api.ErrLimit
	}
	all := slices.Concat(a, b)
	slices.SortStableFunc(all, func(x, y api.Loan) int { return cmp.Compare(x.Out, y.Out) })
	// Valid loans in order, and not too many, are not valid together only if two overlap.
	if !Valid(all) {
		return nil, api.ErrState
	}
	return all, api.OK
}

// changed returns the loans with another one for that of a piece which has not come back.
func changed(l []api.Loan, piece string, change func(lent, int) (lent, bool), day int) ([]api.Loan, api.Errno) {
	if e := checked(l, Name(piece), areDays(day)); e != api.OK {
		return nil, e
	}
	for i, x := range those(l, lent.isOpen, piece) {
		other, ok := change(x, day)
		if !ok {
			return nil, api.ErrState
		}
		list := slices.Clone(l)
		list[i] = api.Loan(other)
		return list, api.OK
	}
	return nil, api.ErrNone
}

// back returns the loan with its piece back on a day, and whether it can be.
func (x lent) back(day int) (lent, bool) {
	x.Back = day
	return x, day > x.Out
}

// renewed returns the loan with another day on which it is due, and whether this is later.
func (x lent) renewed(due int) (lent, bool) {
	later := due > x.Due
	x.Due = due
	return x, later
}
