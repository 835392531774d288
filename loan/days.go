package loan

import (
	"iter"
	"slices"

	"armature/api"
)

// Days returns on how many of some days a piece is out.
func Days(l []api.Loan, piece string, from, to int) (int, api.Errno) {
	if e := checked(l, Name(piece), areDays(from, to) && from <= to); e != api.OK {
		return 0, e
	}
	book, _ := entered(l)
	return sum(slices.All(book[piece]), span{from, to}.common), api.OK
}

// Home returns on how many of some days a piece is at home.
func Home(l []api.Loan, piece string, from, to int) (int, api.Errno) {
	out, e := Days(l, piece, from, to)
	if e != api.OK {
		return 0, e
	}
	return to - from - out, api.OK
}

// Free returns the first day from which a piece is at home for some days in a row.
func Free(l []api.Loan, piece string, from, days int) (int, api.Errno) {
	if e := checked(l, Name(piece), areDays(from) && within(1, maxDays, days)); e != api.OK {
		return 0, e
	}
	book, _ := entered(l)
	for _, out := range book[piece] {
		if out.common(span{from, from + days}) > 0 {
			from = out.to
		}
	}
	if from+days > noDay {
		return 0, api.ErrNone
	}
	return from, api.OK
}

// Charge returns the pence for all days on which loans to a borrower are overdue.
func Charge(l []api.Loan, to string, from, until, pence int) (int, api.Errno) {
	if e := checked(l, Name(to), areDays(from, until) && from <= until && within(0, maxPence, pence)); e != api.OK {
		return 0, e
	}
	due := func(x lent) int { return pence * x.daysOverdue().common(span{from, until}) }
	return sum(those(l, lent.isTo, to), due), api.OK
}

// span is the days from one to that before another one.
type span struct{ from, to int }

func (s span) has(day int) bool { return s.from <= day && day < s.to }

// common returns how many days are in both spans.
func (s span) common(other span) int {
	return max(0, min(s.to, other.to)-max(s.from, other.from))
}

// sum adds up what each of some things counts.
func sum[T any](things iter.Seq2[int, T], count func(T) int) int {
	n := 0
	for _, x := range things {
		n += count(x)
	}
	return n
}

// calendar keeps the days on which each piece is out, in their order.
type calendar map[string][]span

// entered returns the days of loans, and whether these are valid.
func entered(l []api.Loan) (calendar, bool) {
	book := calendar{}
	for i, x := range l {
		if !follows(l[:i], x) || !book.enter(lent(x)) {
			return nil, false
		}
	}
	return book, true
}

// enter adds the days of a loan, unless its piece is still out when it begins.
func (c calendar) enter(x lent) bool {
	days := c[x.Piece]
	if len(days) > 0 && days[len(days)-1].to > x.Out {
		return false
	}
	c[x.Piece] = append(days, x.daysOut())
	return true
}
