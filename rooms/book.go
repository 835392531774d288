package rooms

import (
	"slices"
	"strconv"
	"strings"

	"armature/api"
)

const (
	maxBook   = 600000 // bytes
	sumDigits = 16

	hashBegin uint64 = 14695981039346656037
	hashTimes uint64 = 1099511628211
)

// Lines returns the lines of a book, and whether it is torn.
func Lines(book string) (l []api.Line, torn bool, e api.Errno) {
	if len(book) > maxBook {
		return nil, false, api.ErrLong
	}
	for s := range strings.Lines(book) {
		if !strings.HasSuffix(s, "\n") {
			return l, true, api.OK
		}
		line, ok := parseLine(l, s)
		if !ok {
			return l, false, api.ErrSum
		}
		if len(l) == api.MaxLines {
			return nil, false, api.ErrLimit
		}
		l = append(l, line)
	}
	return l, false, api.OK
}

// Replay returns the rooms that the lines of a book make, and how many of these were done.
func Replay(h api.House, f api.Freeze, book string) (*Rooms, int, api.Errno) {
	x, replies, e := replayed(h, f, book)
	return x, len(replies), e
}

// Replies returns the replies of the lines of a book.
func Replies(h api.House, f api.Freeze, book string) ([]string, api.Errno) {
	_, replies, e := replayed(h, f, book)
	if e != api.OK {
		return nil, e
	}
	return replies, api.OK
}

// Parting returns how many first lines two books share.
func Parting(a, b string) (same int, e api.Errno) {
	one, _, e := Lines(a)
	if e != api.OK {
		return 0, e
	}
	other, _, e := Lines(b)
	if e != api.OK {
		return 0, e
	}
	for same < min(len(one), len(other)) && one[same] == other[same] {
		same++
	}
	return same, api.OK
}

// History returns the numbers of the lines of a book that name a specimen.
func History(h api.House, f api.Freeze, book string, n int) ([]int, api.Errno) {
	x, _, e := replayed(h, f, book)
	if e != api.OK {
		return nil, e
	}
	if !slices.Contains(x.Numbers(), n) {
		return nil, api.ErrName
	}
	var list []int
	for _, line := range x.book {
		if names(line.Text, n) {
			list = append(list, line.Number)
		}
	}
	return list, api.OK
}

// replayed returns the rooms that a book makes, and the replies of the lines that were done before an error, if there is one.
func replayed(h api.House, f api.Freeze, book string) (*Rooms, []string, api.Errno) {
	x, e := New(h, f)
	if e != api.OK {
		return nil, nil, e
	}
	lines, _, e := Lines(book)
	if e != api.OK {
		return nil, nil, e
	}
	var replies []string
	for _, line := range lines {
		reply, e := x.Do(line.Text)
		if e != api.OK {
			return nil, replies, api.ErrSum
		}
		replies = append(replies, reply)
	}
	return x, replies, api.OK
}

// names reports whether a line that was done is one of those about a specimen, and about this one.
func names(text string, n int) bool {
	list := strings.Fields(text)
	switch list[0] {
	case "in", "part", "write", "data", "lend", "back", "renew", "where", "move":
		return list[1] == strconv.Itoa(n)
	}
	return false
}

// next returns the line of a text behind others.
func next(before []api.Line, text string) api.Line {
	var last uint64
	if len(before) > 0 {
		last = before[len(before)-1].Sum
	}
	return api.Line{Number: len(before), Text: text, Sum: hash(formatSum(last) + " " + text)}
}

func hash(s string) uint64 {
	sum := hashBegin
	for i := range len(s) {
		sum = (sum ^ uint64(s[i])) * hashTimes
	}
	return sum
}

func formatSum(sum uint64) string {
	s := strconv.FormatUint(sum, 16)
	return strings.Repeat("0", sumDigits-len(s)) + s
}

func formatLine(l api.Line) string {
	return strconv.Itoa(l.Number) + " " + formatSum(l.Sum) + " " + l.Text + "\n"
}

// parseLine reads a line that stands behind others in a book.
func parseLine(before []api.Line, s string) (api.Line, bool) {
	list := strings.SplitN(strings.TrimSuffix(s, "\n"), " ", 3)
	if len(list) < 3 || !isText(list[2]) {
		return api.Line{}, false
	}
	// Number and sum follow from what stands before, so only one spelling of them is right.
	line := next(before, list[2])
	return line, formatLine(line) == s
}
