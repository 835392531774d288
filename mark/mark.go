// Package mark numbers specimens and keeps the data of their parts together: layer 1, see shared/doc/01-mark.md.
package mark

import (
	"slices"
	"strconv"
	"strings"

	"armature/api"
)

const (
	digits      = 6
	signs       = "0123456789X"
	firstWeight = 2 // of the first digit; each further one weighs one more
)

// Sign returns the check sign of a number.
func Sign(n int) (string, api.Errno) {
	if !inRange(n) {
		return "", api.ErrRange
	}
	k := check(n)
	return signs[k : k+1], api.OK
}

// Mark returns the mark of a number: its six digits, a hyphen and its check sign.
func Mark(n int) (string, api.Errno) {
	sign, e := Sign(n)
	if e != api.OK {
		return "", e
	}
	return sixDigits(n) + "-" + sign, api.OK
}

// Number returns the number of a mark.
func Number(mark string) (int, api.Errno) {
	n, sign, ok := read(mark)
	if !ok {
		return 0, api.ErrSyntax
	}
	if sign != check(n) {
		return 0, api.ErrSum
	}
	return n, api.OK
}

// Near returns the numbers whose marks differ from a text of their form in at most one sign.
func Near(mark string) ([]int, api.Errno) {
	n, sign, ok := read(mark)
	if !ok {
		return nil, api.ErrSyntax
	}
	list := []int{n}
	for place := 1; place <= api.MaxNumber; place *= 10 {
		digit := n / place % 10
		for d := range 10 {
			other := n + (d-digit)*place
			// With a digit changed, the check sign must be the one that stands there.
			if d != digit && check(other) == sign {
				list = append(list, other)
			}
		}
	}
	slices.Sort(list)
	return list, api.OK
}

func inRange(n int) bool { return n >= 0 && n <= api.MaxNumber }

func sixDigits(n int) string {
	s := strconv.Itoa(n)
	return strings.Repeat("0", digits-len(s)) + s
}

// check returns which of the signs makes the weighted sum a multiple of their count.
func check(n int) int {
	sum := 0
	for i, r := range sixDigits(n) {
		sum += (i + firstWeight) * int(r-'0')
	}
	return (len(signs) - sum%len(signs)) % len(signs)
}

// read takes a text of a mark's form apart; whether its sign fits is not asked.
func read(mark string) (n, sign int, ok bool) {
	if len(mark) != digits+2 || mark[digits] != '-' {
		return 0, 0, false
	}
	for _, r := range mark[:digits] {
		if r < '0' || r > '9' {
			return 0, 0, false
		}
		n = n*10 + int(r-'0')
	}
	sign = strings.IndexByte(signs, mark[digits+1])
	if sign < 0 {
		return 0, 0, false
	}
	return n, sign, true
}
