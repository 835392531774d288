package rooms_test

import (
	"fmt"
	"hash/fnv"
	"slices"
	"strings"
	"testing"

	"armature/api"
	"armature/rooms"
)

const (
	maxLine = 200
	maxBook = 600000
)

// house has pests in the room 0, and two doors between the rooms 1 and 2.
func house() api.House {
	return api.House{Rooms: 4, Doors: []api.Door{{A: 0, B: 1, Cost: 2}, {A: 1, B: 2, Cost: 1}, {A: 1, B: 2, Cost: 3}, {A: 2, B: 3}}, Infested: 1, Kept: 8}
}

func rule() api.Freeze { return api.Freeze{Temp: -180, Hours: 48, Times: 1, Warm: 150} }

// begun are rooms of the house in which some lines were done.
func begun(t *testing.T, lines ...string) *rooms.Rooms {
	t.Helper()
	x, e := rooms.New(house(), rule())
	if e != api.OK {
		t.Fatalf("New: %d", e)
	}
	done(t, x, lines...)
	return x
}

func done(t *testing.T, x *rooms.Rooms, lines ...string) {
	t.Helper()
	for _, line := range lines {
		if r, e := x.Do(line); e != api.OK || r == "" {
			t.Fatalf("%s: %q, %d", line, r, e)
		}
	}
}

// owl is a specimen in the room 2, with parts below each other.
func owl() []string {
	return []string{"permit owl york 0 9 2", "in 5 owl york 0 2", "part 5 whole skull", "part 5 skull jaw", "part 5 jaw tooth", "part 5 whole skin"}
}

// reply is a line, and what must come of it.
type reply struct {
	line, want string
	e          api.Errno
}

// check does lines in their order, and asks that one which is refused leaves everything as it is.
func check(t *testing.T, x *rooms.Rooms, list ...reply) {
	t.Helper()
	for _, c := range list {
		before := faceOf(x)
		r, e := x.Do(c.line)
		if r != c.want || e != c.e {
			t.Errorf("%q: %q, %d; want %q, %d", c.line, r, e, c.want, c.e)
		}
		if after := faceOf(x); e != api.OK && after != before {
			t.Errorf("%q is refused, and %s became %s", c.line, before, after)
		}
	}
}

// refused are lines that are all refused with the same error.
func refused(e api.Errno, lines ...string) []reply {
	var list []reply
	for _, line := range lines {
		list = append(list, reply{line: line, e: e})
	}
	return list
}

// faceOf is all that rooms tell of themselves.
func faceOf(x *rooms.Rooms) string {
	var parts [][]api.Part
	for _, n := range x.Numbers() {
		p, _ := x.Parts(n)
		parts = append(parts, p)
	}
	return fmt.Sprint(x.Day(), x.Numbers(), parts, x.Loans(), x.Permits(), x.Pieces(), x.Sealed()) + "\n" + x.Book()
}

// bookOf writes anew the book of some texts.
func bookOf(texts ...string) string {
	var b strings.Builder
	sum := uint64(0)
	for n, text := range texts {
		sum = sumOf(sum, text)
		fmt.Fprintf(&b, "%d %016x %s\n", n, sum, text)
	}
	return b.String()
}

func sumOf(before uint64, text string) uint64 {
	h := fnv.New64a()
	fmt.Fprintf(h, "%016x %s", before, text)
	return h.Sum64()
}

// linesOf are the lines of such a book.
func linesOf(texts ...string) []api.Line {
	var l []api.Line
	sum := uint64(0)
	for n, text := range texts {
		sum = sumOf(sum, text)
		l = append(l, api.Line{Number: n, Text: text, Sum: sum})
	}
	return l
}

// crowd are lines that fill rooms: as many specimens as there may be, of whom one has as many parts.
func crowd() []string {
	list := []string{"permit owl york 0 9 40"}
	for n := range api.MaxPieces {
		list = append(list, fmt.Sprintf("in %d owl york 0 %d", n, n%4))
	}
	for n := range api.MaxParts - 1 {
		list = append(list, fmt.Sprintf("part 7 whole p%d", n))
	}
	return list
}

// days is so many lines that change nothing.
func days(n int) []string { return slices.Repeat([]string{"day 0"}, n) }

// dice throws numbers that are the same in every run.
type dice uint64

func (d *dice) throw(n int) int {
	*d = *d*6364136223846793005 + 1442695040888963407
	return int(uint64(*d) >> 33 % uint64(n))
}

func (d *dice) pick(list ...string) string { return list[d.throw(len(list))] }
