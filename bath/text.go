package bath

import (
	"strconv"
	"strings"

	"armature/api"
)

// Format returns a line for each step: its kind and its number.
func Format(l []api.Step) string {
	if !ValidSteps(l) {
		return ""
	}
	var b strings.Builder
	for _, s := range l {
		b.WriteString(formatStep(s))
	}
	return b.String()
}

// Parse reads what Format writes.
func Parse(s string) (l []api.Step, line int, e api.Errno) {
	if len(s) > api.MaxText {
		return nil, 0, api.ErrLong
	}
	for text := range strings.Lines(s) {
		step, ok := parseStep(text)
		if !ok || len(l) == api.MaxSteps {
			return nil, len(l), api.ErrSyntax
		}
		l = append(l, step)
	}
	return l, 0, api.OK
}

func formatStep(s api.Step) string {
	return strconv.Itoa(s.Kind) + " " + strconv.Itoa(s.N) + "\n"
}

func parseStep(line string) (api.Step, bool) {
	kind, number, _ := strings.Cut(strings.TrimSuffix(line, "\n"), " ")
	k, _ := strconv.Atoi(kind)
	n, _ := strconv.Atoi(number)
	s := api.Step{Kind: k, N: n}
	// What is no number, or is one with a sign or with zeros before it, is not written again as it was read.
	return s, validStep(s) && formatStep(s) == line
}
