package loan

import (
	"strconv"
	"strings"

	"armature/api"
)

// Format returns a line for each loan: its names and its days.
func Format(l []api.Loan) string {
	if !Valid(l) {
		return ""
	}
	var b strings.Builder
	for _, x := range l {
		b.WriteString(formatLoan(x))
	}
	return b.String()
}

// Parse reads what Format writes.
func Parse(s string) (l []api.Loan, line int, e api.Errno) {
	if len(s) > api.MaxText {
		return nil, 0, api.ErrLong
	}
	book := calendar{}
	for text := range strings.Lines(s) {
		x, ok := parseLoan(text)
		if !ok || !follows(l, x) || !book.enter(lent(x)) {
			return nil, len(l), api.ErrSyntax
		}
		l = append(l, x)
	}
	return l, 0, api.OK
}

func formatLoan(x api.Loan) string {
	line := x.Piece + " " + x.To
	for _, n := range []int{x.Out, x.Due, x.Back} {
		line += " " + strconv.Itoa(n)
	}
	return line + "\n"
}

// parseLoan reads a line's form; whether the loan is valid is not asked.
func parseLoan(line string) (api.Loan, bool) {
	words := strings.Fields(line)
	if len(words) != 5 {
		return api.Loan{}, false
	}
	var days [3]int
	for i := range days {
		days[i], _ = strconv.Atoi(words[2+i])
	}
	x := api.Loan{Piece: words[0], To: words[1], Out: days[0], Due: days[1], Back: days[2]}
	// What is no number, or is one in another spelling, is not written again as it was read.
	return x, formatLoan(x) == line
}
