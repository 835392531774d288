package mark

import (
	"strconv"
	"strings"

	"armature/api"
)

// Format returns a line for each part: its sign, the part from which it was taken, and its fields.
func Format(p []api.Part) string {
	if !Valid(p) {
		return ""
	}
	var b strings.Builder
	for _, x := range p {
		b.WriteString(x.Sign)
		b.WriteByte(' ')
		b.WriteString(strconv.Itoa(x.From))
		for _, f := range x.Label {
			b.WriteString(" " + f.Key + "=" + f.Value)
		}
		b.WriteByte('\n')
	}
	return b.String()
}

// Parse reads what Format writes.
func Parse(s string) (p []api.Part, line int, e api.Errno) {
	if len(s) > api.MaxText {
		return nil, 0, api.ErrLong
	}
	for s != "" || len(p) == 0 {
		text, rest, ended := strings.Cut(s, "\n")
		x, ok := parsePart(text)
		line = len(p)
		p = append(p, x)
		// Parts are valid only if each beginning of theirs is, so the first line that spoils them is the wrong one.
		if !ended || !ok || !Valid(p) {
			return nil, line, api.ErrSyntax
		}
		s = rest
	}
	return p, 0, api.OK
}

// parsePart reads a line's form; whether the part is valid is not asked.
func parsePart(line string) (api.Part, bool) {
	words := strings.Split(line, " ")
	if len(words) < 2 {
		return api.Part{}, false
	}
	from, ok := parseNumber(words[1])
	if !ok {
		return api.Part{}, false
	}
	x := api.Part{Sign: words[0], From: from}
	for _, w := range words[2:] {
		key, value, found := strings.Cut(w, "=")
		if !found {
			return api.Part{}, false
		}
		x.Label = append(x.Label, api.Field{Key: key, Value: value})
	}
	return x, true
}

func parseNumber(s string) (int, bool) {
	n, err := strconv.Atoi(s)
	if err != nil {
		return 0, false
	}
	// Atoi takes more than one text for a number: only the one that is written counts.
	return n, strconv.Itoa(n) == s
}
