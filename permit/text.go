package permit

import (
	"strconv"
	"strings"

	"armature/api"
)

// Format returns a line for each permit: its place, its days, its number of pieces and its kinds.
func Format(permits []api.Permit) string {
	if !validPermits(permits) {
		return ""
	}
	var b strings.Builder
	for _, p := range permits {
		b.WriteString(formatPermit(p))
	}
	return b.String()
}

// Parse reads what Format writes.
func Parse(s string) (permits []api.Permit, line int, e api.Errno) {
	if len(s) > api.MaxText {
		return nil, 0, api.ErrLong
	}
	for text := range strings.Lines(s) {
		p, ok := parsePermit(text)
		if !ok || len(permits) == api.MaxPermits {
			return nil, len(permits), api.ErrSyntax
		}
		permits = append(permits, p)
	}
	return permits, 0, api.OK
}

func formatPermit(p api.Permit) string {
	words := []string{p.Place, strconv.Itoa(p.From), strconv.Itoa(p.To), strconv.Itoa(p.Most)}
	return strings.Join(append(words, p.Kinds...), " ") + "\n"
}

func parsePermit(line string) (api.Permit, bool) {
	words := strings.Fields(line)
	if len(words) < 4 {
		return api.Permit{}, false
	}
	var numbers [3]int
	for i := range numbers {
		n, err := strconv.Atoi(words[1+i])
		if err != nil {
			return api.Permit{}, false
		}
		numbers[i] = n
	}
	p := api.Permit{Place: words[0], From: numbers[0], To: numbers[1], Most: numbers[2], Kinds: words[4:]}
	// A permit has many spellings, with zeros before its numbers or more blanks: only the one that is written counts.
	return p, ValidPermit(p) && formatPermit(p) == line
}
