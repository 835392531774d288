package cold

import (
	"strconv"
	"strings"

	"armature/api"
)

// Format returns a line for each reading: its hour and its temperature.
func Format(l []api.Reading) string {
	if !ValidReadings(l) {
		return ""
	}
	var b strings.Builder
	for _, r := range l {
		b.WriteString(formatReading(r))
	}
	return b.String()
}

// Parse reads what Format writes.
func Parse(s string) (l []api.Reading, line int, e api.Errno) {
	if len(s) > api.MaxText {
		return nil, 0, api.ErrLong
	}
	for text := range strings.Lines(s) {
		r, ok := parseReading(text)
		if !ok || !follows(l, r) || len(l) == maxReadings {
			return nil, len(l), api.ErrSyntax
		}
		l = append(l, r)
	}
	if len(l) == 0 {
		return nil, 0, api.ErrSyntax
	}
	return l, 0, api.OK
}

func formatReading(r api.Reading) string {
	return strconv.Itoa(r.Hour) + " " + strconv.Itoa(r.Temp) + "\n"
}

// parseReading reads a line's form; whether the reading is valid is not asked.
func parseReading(line string) (api.Reading, bool) {
	hour, temp, _ := strings.Cut(strings.TrimSuffix(line, "\n"), " ")
	h, _ := strconv.Atoi(hour)
	t, _ := strconv.Atoi(temp)
	r := api.Reading{Hour: h, Temp: t}
	// What is no number, or is one in another spelling, is not written again as it was read.
	return r, formatReading(r) == line
}
