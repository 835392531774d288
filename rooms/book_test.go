package rooms_test

import (
	"fmt"
	"slices"
	"strings"
	"testing"

	"armature/api"
	"armature/rooms"
)

// written is a book whose sums were reckoned by hand.
const written = `0 69b49fa2d86f8085 permit owl york 0 9 1
1 4fe52885e8ea2dce in 5 owl york 0 2
2 217fb0cb1e6b84d3 part 5 whole skull
3 7eec33e549269b78 lend 5 skull bath 30
4 f5deb2b9808e3a4d day 3
5 252cdeee170be5be seal 0
6 4d4469d4ae807efe danger
`

func writtenTexts() []string {
	return []string{"permit owl york 0 9 1", "in 5 owl york 0 2", "part 5 whole skull", "lend 5 skull bath 30", "day 3", "seal 0", "danger"}
}

func TestP102Book(t *testing.T) {
	x := begun(t)
	if s := x.Book(); s != "" {
		t.Errorf("the first book: %q", s)
	}
	done(t, x, writtenTexts()...)
	if s := x.Book(); s != written || s != bookOf(writtenTexts()...) {
		t.Errorf("the book: %q", s)
	}
	// A sum that begins with zeros has all its digits.
	if s := begun(t, "day 16200", "danger").Book(); !strings.HasPrefix(s, "0 0007e44377fe6ec0 day 16200\n1 ") || s != bookOf("day 16200", "danger") {
		t.Errorf("the book: %q", s)
	}
	// Lines that only ask are written as well, and those that are refused are not.
	y := begun(t, "day 5")
	check(t, y, refused(api.ErrName, "data 5 whole", "where 5 whole")...)
	done(t, y, "danger", "day 5", "danger")
	if s := y.Book(); s != bookOf("day 5", "danger", "day 5", "danger") {
		t.Errorf("the book: %q", s)
	}
}

// goodTexts are texts of a book whether rooms would do them or not.
func goodTexts() []string {
	return []string{"x", "~", "!", "dance", "day 01", "a  b", "0 0 0", strings.Repeat("a", maxLine), "a" + strings.Repeat(" ", maxLine-2) + "b", "day 5", "#\"$%&'()*+,-./:;<=>?@[\\]^_`{|}"}
}

func TestP103Lines(t *testing.T) {
	full := slices.Repeat([]string{strings.Repeat("a", maxLine)}, api.MaxLines)
	for _, texts := range [][]string{nil, goodTexts(), writtenTexts(), full} {
		for _, tail := range []string{"", "x", "0", fmt.Sprintf("%d ", len(texts)), " ", "\x00", "\xff\r", strings.TrimSuffix(bookOf(append(slices.Clone(texts), "day 5")...)[len(bookOf(texts...)):], "\n")} {
			l, torn, e := rooms.Lines(bookOf(texts...) + tail)
			if e != api.OK || torn != (tail != "") || !slices.Equal(l, linesOf(texts...)) {
				t.Errorf("Lines of %d lines and %q: %d lines, %t, %d", len(texts), tail, len(l), torn, e)
			}
		}
	}
}

// wrongLines are what no line of a book with two lines before it is.
func wrongLines() []string {
	good := bookOf("day 5", "day 6", "day 7")[len(bookOf("day 5", "day 6")):]
	other := bookOf("day 5", "day 8", "day 7")[len(bookOf("day 5", "day 8")):]
	list := []string{"\n", " \n", "2\n", "x\n", "2 \n", "2  \n", good[:19] + "\n", good[:20] + "\n", " " + good, good[1:], "0" + good, "+" + good, "-" + good, "3" + good[1:], "1" + good[1:], "12" + good[1:], other, strings.ToUpper(good[:19]) + good[19:], good[:2] + "0" + good[2:], good[:2] + good[3:], "2 0000000000000000 day 7\n", strings.Replace(good, "day 7", "day 9", 1), strings.Replace(good, "day 7", "day 7 ", 1), strings.Replace(good, "day 7", "day  7", 1), strings.Replace(good, " ", "  ", 1), strings.Replace(good, " ", "\t", 1), strings.TrimSuffix(good, "\n") + "\r\n", bookOf("day 5", "day 6")}
	// Right sums do not help texts that no line can have.
	for _, text := range []string{"", " ", " a", "a ", "  ", "a\x00", "a\x1f", "a\x7f", "\x80", "ä", "a\tb", "a\r", strings.Repeat("a", maxLine+1), strings.Repeat("a", 1<<18)} {
		list = append(list, fmt.Sprintf("2 %016x %s\n", sumOf(sumOf(sumOf(0, "day 5"), "day 6"), text), text))
	}
	return list
}

func TestP103LinesWrong(t *testing.T) {
	before := bookOf("day 5", "day 6")
	for _, s := range wrongLines() {
		for _, tail := range []string{"", "x", "\n", "x\n\n"} {
			l, torn, e := rooms.Lines(before + s + tail)
			if e != api.ErrSum || torn || !slices.Equal(l, linesOf("day 5", "day 6")) {
				t.Errorf("Lines of %.99q: %v, %t, %d", s+tail, l, torn, e)
			}
			if x, n, e := rooms.Replay(house(), rule(), before+s+tail); x != nil || n != 0 || e != api.ErrSum {
				t.Errorf("Replay of %.99q: %d, %d", s+tail, n, e)
			}
		}
	}
	// Each byte that is changed shows, at its line.
	for i := range len(written) {
		b := []byte(written)
		b[i] ^= 1
		l, _, e := rooms.Lines(string(b))
		line := strings.Count(written[:i], "\n")
		if last := i == len(written)-1; last && (e != api.OK || len(l) != line) || !last && (e != api.ErrSum || !slices.Equal(l, linesOf(writtenTexts()[:line]...))) {
			t.Errorf("Lines with the byte %d changed: %v, %d", i, l, e)
		}
	}
}

func TestP103LinesLong(t *testing.T) {
	full := bookOf(days(api.MaxLines)...)
	more := bookOf(days(api.MaxLines + 1)...)
	for _, c := range []struct {
		book  string
		lines int
		torn  bool
		e     api.Errno
	}{
		{full, api.MaxLines, false, api.OK}, {more, 0, false, api.ErrLimit}, {more + "x", 0, false, api.ErrLimit}, {more + "x\n", 0, false, api.ErrLimit}, {bookOf(days(api.MaxLines + 2)...), 0, false, api.ErrLimit}, {more[:len(more)-1], api.MaxLines, true, api.OK}, {full + "x\n", api.MaxLines, false, api.ErrSum}, {full + "\n" + more, api.MaxLines, false, api.ErrSum},
		{full + strings.Repeat("x", maxBook-len(full)), api.MaxLines, true, api.OK}, {full + strings.Repeat("x", maxBook-len(full)+1), 0, false, api.ErrLong}, {more + strings.Repeat("\n", maxBook), 0, false, api.ErrLong}, {strings.Repeat("\n", maxBook), 0, false, api.ErrSum}, {strings.Repeat("\n", maxBook+1), 0, false, api.ErrLong}, {strings.Repeat("x", maxBook), 0, true, api.OK}, {strings.Repeat("x", maxBook+1), 0, false, api.ErrLong},
	} {
		if l, torn, e := rooms.Lines(c.book); len(l) != c.lines || torn != c.torn || e != c.e {
			t.Errorf("Lines of %d bytes: %d lines, %t, %d; want %d, %t, %d", len(c.book), len(l), torn, e, c.lines, c.torn, c.e)
		}
		done := c.lines
		if c.e != api.OK {
			done = 0
		}
		if x, n, e := rooms.Replay(house(), rule(), c.book); n != done || e != c.e || (x != nil) != (e == api.OK) {
			t.Errorf("Replay of %d bytes: %d lines, %d", len(c.book), n, e)
		}
	}
}

func TestP105Beginnings(t *testing.T) {
	x := begun(t)
	faces := []string{faceOf(x)}
	for _, line := range writtenTexts() {
		done(t, x, line)
		faces = append(faces, faceOf(x))
	}
	for cut := range len(written) + 1 {
		lines := strings.Count(written[:cut], "\n")
		l, torn, e := rooms.Lines(written[:cut])
		if e != api.OK || torn != (cut > 0 && written[cut-1] != '\n') || !slices.Equal(l, linesOf(writtenTexts()[:lines]...)) {
			t.Fatalf("Lines of %q: %v, %t, %d", written[:cut], l, torn, e)
		}
		y, n, e := rooms.Replay(house(), rule(), written[:cut])
		if e != api.OK || n != lines || faceOf(y) != faces[lines] {
			t.Fatalf("Replay of %q: %d, %d", written[:cut], n, e)
		}
	}
}

func TestP103Replay(t *testing.T) {
	none, wrong := api.House{}, api.Freeze{}
	refused := bookOf("day 5", "day 6", "day 4", "danger")
	for _, c := range []struct {
		h     api.House
		f     api.Freeze
		book  string
		lines int
		e     api.Errno
	}{
		{none, rule(), written, 0, api.ErrInvalid}, {house(), wrong, written, 0, api.ErrInvalid}, {none, rule(), "\n", 0, api.ErrInvalid}, {none, wrong, strings.Repeat("x", maxBook+1), 0, api.ErrInvalid}, {house(), wrong, refused, 0, api.ErrInvalid},
		{house(), rule(), refused, 2, api.ErrSum}, {house(), rule(), refused + "x", 2, api.ErrSum}, {house(), rule(), refused + "\n", 0, api.ErrSum}, {house(), rule(), bookOf("dance"), 0, api.ErrSum}, {house(), rule(), bookOf("danger", "day 01"), 1, api.ErrSum}, {house(), rule(), bookOf("danger", "danger", "danger", "in 5 owl york 0 2"), 3, api.ErrSum},
		{api.House{Rooms: 2}, rule(), written, 1, api.ErrSum}, {api.House{Rooms: 3}, rule(), written, 5, api.ErrSum},
		{api.House{Rooms: 3, Doors: house().Doors[:1]}, rule(), written, 7, api.OK}, {house(), rule(), "", 0, api.OK}, {house(), rule(), "torn", 0, api.OK}, {house(), rule(), written, 7, api.OK}, {house(), rule(), written + "7 ", 7, api.OK},
	} {
		x, n, e := rooms.Replay(c.h, c.f, c.book)
		if (x != nil) != (c.e == api.OK) || n != c.lines || e != c.e {
			t.Errorf("Replay of %.60q: %d, %d; want %d, %d", c.book, n, e, c.lines, c.e)
		}
		if x != nil && x.Book() != c.book[:strings.LastIndex(c.book, "\n")+1] {
			t.Errorf("the book of %q is %q", c.book, x.Book())
		}
		l, e := rooms.Replies(c.h, c.f, c.book)
		if e != c.e || e == api.OK && len(l) != c.lines || e != api.OK && len(l) != 0 {
			t.Errorf("Replies of %.60q: %v, %d; want %d", c.book, l, e, c.e)
		}
		if l, e := rooms.History(c.h, c.f, c.book, 77); len(l) != 0 || c.e != api.OK && e != c.e || c.e == api.OK && e != api.ErrName {
			t.Errorf("History of %.60q: %v, %d; want %d", c.book, l, e, c.e)
		}
	}
	if l, e := rooms.Replies(house(), rule(), written); e != api.OK || !slices.Equal(l, []string{"permits 1", "000005-9", "parts 2", "loans 1", "day 3", "sealed 1", "none"}) {
		t.Errorf("Replies: %q, %d", l, e)
	}
}

func TestP103Parting(t *testing.T) {
	a := []string{"day 1", "day 2", "day 3", "day 4"}
	for _, c := range []struct {
		a, b string
		same int
		e    api.Errno
	}{
		{"", "", 0, api.OK}, {bookOf(a...), "", 0, api.OK}, {bookOf(a...), bookOf(a...), 4, api.OK}, {bookOf(a...), bookOf(a[:3]...), 3, api.OK}, {bookOf(a[:1]...), bookOf(a...), 1, api.OK}, {bookOf(a...), bookOf("day 1", "day 2", "day 5", "day 4"), 2, api.OK}, {bookOf(a...), bookOf("day 0", "day 2", "day 3", "day 4"), 0, api.OK}, {bookOf("dance", "x"), bookOf("dance", "y"), 1, api.OK},
		{bookOf(a...) + "x", bookOf(a...) + "y", 4, api.OK}, {bookOf(a...), bookOf(a...)[:len(bookOf(a...))-1], 3, api.OK}, {"x", "x", 0, api.OK},
		{bookOf(a...) + "\n", bookOf(a...), 0, api.ErrSum}, {bookOf(a...), bookOf(a...) + "\n", 0, api.ErrSum}, {bookOf(days(2001)...), bookOf(a...), 0, api.ErrLimit}, {bookOf(a...), bookOf(days(2001)...), 0, api.ErrLimit}, {bookOf(a...), strings.Repeat("x", maxBook+1), 0, api.ErrLong}, {strings.Repeat("x", maxBook+1), bookOf(a...), 0, api.ErrLong},
		{"\n", strings.Repeat("x", maxBook+1), 0, api.ErrSum}, {strings.Repeat("x", maxBook+1), "\n", 0, api.ErrLong}, {bookOf(days(2001)...), "\n", 0, api.ErrLimit}, {"\n", bookOf(days(2001)...), 0, api.ErrSum}, {bookOf(days(2000)...), bookOf(days(2000)...), 2000, api.OK},
	} {
		if same, e := rooms.Parting(c.a, c.b); same != c.same || e != c.e {
			t.Errorf("Parting of %.60q and %.60q: %d, %d; want %d, %d", c.a, c.b, same, e, c.same, c.e)
		}
	}
}

func TestP103History(t *testing.T) {
	texts := append(owl(), "in 50 owl york 0 1", "lend 5 skull kew 9", "day 5", "back 5 skull", "danger", "seal 0", "lend 50 whole kew 50", "renew 50 whole 60", "move 5 0", "write 5 whole a 50", "data 5 jaw", "where 5 jaw", "where 50 whole", "open 0", "write 50 whole 5 5", "permit 5 5 5 5 5", "day 50", "part 50 whole 5", "data 50 5", "seal 0", "back 50 whole")
	book := begun(t, texts...).Book()
	for n, want := range map[int][]int{5: {1, 2, 3, 4, 5, 7, 9, 14, 15, 16, 17}, 50: {6, 12, 13, 18, 20, 23, 24, 26}} {
		for _, tail := range []string{"", "x", "27 "} {
			if l, e := rooms.History(house(), rule(), book+tail, n); e != api.OK || !slices.Equal(l, want) {
				t.Errorf("History of %d: %v, %d; want %v", n, l, e, want)
			}
		}
	}
	for _, n := range []int{0, 1, 4, 9, -5, 500, 999999, 1000000, -1 << 63, 1<<63 - 1} {
		if l, e := rooms.History(house(), rule(), book, n); len(l) != 0 || e != api.ErrName {
			t.Errorf("History of %d: %v, %d", n, l, e)
		}
	}
	// A book that is wrong is told before a specimen that there is not; one that is not there yet has no history.
	for _, n := range []int{5, 6} {
		if l, e := rooms.History(house(), rule(), book+"\n", n); len(l) != 0 || e != api.ErrSum {
			t.Errorf("History of %d in a wrong book: %v, %d", n, l, e)
		}
		if l, e := rooms.History(house(), rule(), bookOf(texts[:1]...), n); len(l) != 0 || e != api.ErrName {
			t.Errorf("History of %d in a short book: %v, %d", n, l, e)
		}
	}
}
