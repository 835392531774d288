package rooms

import (
	"strconv"
	"strings"

	"armature/api"
)

const (
	maxLine   = 200 // bytes
	maxDigits = 6   // of a number
)

// kind is what a word of a line can be.
type kind interface {
	// read adds a word to others, and reports whether it is of this kind.
	read(s string, w *words) bool
}

type (
	number struct{}
	word   struct{}
)

// words are those of a line behind the first one: numbers and others, each in their order.
type words struct {
	numbers []int
	texts   []string
}

// command is a form of lines: the kinds of the words behind the first one, and what is done with them.
type command struct {
	kinds []kind
	do    func(*Rooms, words) string
}

// refusal is the panic by which a line that is refused is left.
type refusal api.Errno

// Do does a line, and returns its reply.
func (x *Rooms) Do(line string) (reply string, e api.Errno) {
	defer func() {
		switch r := recover().(type) {
		case nil:
		case refusal:
			reply, e = "", api.Errno(r)
		default:
			// Nothing else is known to panic, but no caller is to see it if it does.
			reply, e = "", api.ErrState
		}
	}()
	refuseIf(!x.areSetUp(), api.ErrState)
	do, w, ok := parsed(line)
	refuseIf(!ok, api.ErrCommand)
	refuseIf(len(x.book) == api.MaxLines, api.ErrLimit)
	reply = do(x, w)
	x.book = append(x.book, next(x.book, line))
	return reply, api.OK
}

// commands returns the forms of lines by their first words.
func commands() map[string]command {
	n, w := number{}, word{}
	return map[string]command{
		"day":    {[]kind{n}, (*Rooms).goOn},
		"permit": {[]kind{w, w, n, n, n}, (*Rooms).allow},
		"in":     {[]kind{n, w, w, n, n}, (*Rooms).bring},
		"part":   {[]kind{n, w, w}, (*Rooms).take},
		"write":  {[]kind{n, w, w, w}, (*Rooms).write},
		"data":   {[]kind{n, w}, (*Rooms).data},
		"lend":   {[]kind{n, w, w, n}, (*Rooms).lend},
		"back":   {[]kind{n, w}, (*Rooms).back},
		"renew":  {[]kind{n, w, n}, (*Rooms).renew},
		"where":  {[]kind{n, w}, (*Rooms).where},
		"move":   {[]kind{n, n}, (*Rooms).move},
		"seal":   {[]kind{n}, (*Rooms).seal},
		"open":   {[]kind{n}, (*Rooms).open},
		"danger": {nil, (*Rooms).danger},
	}
}

// parsed returns what a line does, and with which words, if it is of one of the forms.
func parsed(line string) (do func(*Rooms, words) string, w words, ok bool) {
	if !isText(line) {
		return nil, words{}, false
	}
	list := strings.Split(line, " ")
	c, known := commands()[list[0]]
	list = list[1:]
	if !known || len(list) != len(c.kinds) {
		return nil, words{}, false
	}
	for i, k := range c.kinds {
		if !k.read(list[i], &w) {
			return nil, words{}, false
		}
	}
	return c.do, w, true
}

func (number) read(s string, w *words) bool {
	n, err := strconv.Atoi(s)
	// Atoi takes more than one text for a number: only the one that is written counts.
	if err != nil || n < 0 || len(s) > maxDigits || strconv.Itoa(n) != s {
		return false
	}
	w.numbers = append(w.numbers, n)
	return true
}

func (word) read(s string, w *words) bool {
	w.texts = append(w.texts, s)
	return s != ""
}

// isText reports whether a text has the bytes of a line; the book asks no more of it.
func isText(s string) bool {
	if s == "" || len(s) > maxLine || s[0] == ' ' || s[len(s)-1] == ' ' {
		return false
	}
	for i := range len(s) {
		if s[i] < ' ' || s[i] > '~' {
			return false
		}
	}
	return true
}

func refuseIf(wrong bool, e api.Errno) {
	if wrong {
		panic(refusal(e))
	}
}

// sure returns a result that comes without an error; with one, the line is refused.
func sure[T any](result T, e api.Errno) T {
	refuseIf(e != api.OK, e)
	return result
}
