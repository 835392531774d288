package rooms_test

import (
	"fmt"
	"maps"
	"regexp"
	"slices"
	"strconv"
	"strings"

	"armature/api"
)

// account does lines anew: plainly, without the other layers, and from scratch with each question.
type account struct {
	house   api.House
	day     int
	permits []api.Permit
	numbers []int // in the order in which they came in
	kept    map[int]*kept
	loans   []api.Loan
	sealed  map[int]bool
	texts   []string
}

// kept is a specimen, and what is known of its parts by their signs.
type kept struct {
	piece api.Piece
	signs []string
	above map[string]string // of the whole there is none
	label map[string]map[string]string
	room  int
}

func newAccount() *account {
	return &account{house: house(), kept: map[int]*kept{}, sealed: map[int]bool{}}
}

var (
	aWord = regexp.MustCompile(`^[a-z0-9]{1,20}$`)
	aName = regexp.MustCompile(`^[a-z0-9-]{1,30}$`)
	aLine = regexp.MustCompile(`^[!-~]([ -~]{0,198}[!-~])?$`)

	formed = forms()
)

// forms are the lines of the chapter's table: N is a number, and W any word.
func forms() []*regexp.Regexp {
	var list []*regexp.Regexp
	r := strings.NewReplacer("N", `(0|[1-9][0-9]{0,5})`, "W", `([!-~]+)`)
	for _, s := range []string{"(day) N", "(permit) W W N N N", "(in) N W W N N", "(part) N W W", "(write) N W W W", "(data) N W", "(lend) N W W N", "(back) N W", "(renew) N W N", "(where) N W", "(move) N N", "(seal) N", "(open) N", "(danger)"} {
		list = append(list, regexp.MustCompile("^"+r.Replace(s)+"$"))
	}
	return list
}

// do does a line, and writes it into the book if it is not refused.
func (a *account) do(line string) (string, api.Errno) {
	for _, form := range formed {
		if w := form.FindStringSubmatch(line); w != nil && aLine.MatchString(line) {
			if len(a.texts) == api.MaxLines {
				return "", api.ErrLimit
			}
			r, e := a.work(w[1:])
			if e == api.OK {
				a.texts = append(a.texts, line)
			}
			return r, e
		}
	}
	return "", api.ErrCommand
}

func num(s string) int {
	n, err := strconv.Atoi(s)
	if err != nil {
		panic("no number: " + s)
	}
	return n
}

func (a *account) work(w []string) (string, api.Errno) {
	switch w[0] {
	case "day":
		return a.goOn(num(w[1]))
	case "permit":
		return a.permit(api.Permit{Kinds: w[1:2], Place: w[2], From: num(w[3]), To: num(w[4]), Most: num(w[5])})
	case "in":
		return a.in(num(w[1]), api.Piece{Kind: w[2], Place: w[3], Day: num(w[4])}, num(w[5]))
	case "seal", "open":
		return a.turn(num(w[1]), w[0] == "seal")
	case "danger":
		return a.danger(), api.OK
	}
	k := a.kept[num(w[1])]
	if k == nil {
		return "", api.ErrName
	}
	if w[0] == "move" {
		return a.move(k, num(w[1]), num(w[2]))
	}
	if !slices.Contains(k.signs, w[2]) {
		return "", api.ErrName
	}
	piece := pieceName(num(w[1]), w[2])
	switch w[0] {
	case "part":
		return k.part(w[2], w[3])
	case "write":
		return k.write(w[2], w[3], w[4])
	case "data":
		return k.data(w[2]), api.OK
	case "lend":
		return a.lend(k, num(w[1]), w[2], api.Loan{Piece: piece, To: w[3], Out: a.day, Due: num(w[4])})
	case "back":
		return a.back(piece)
	case "renew":
		return a.renew(piece, num(w[3]))
	}
	for s := w[2]; s != ""; s = k.above[s] {
		if to := a.at(pieceName(num(w[1]), s)); to != "" {
			return "at " + to, api.OK
		}
	}
	return fmt.Sprintf("room %d", k.room), api.OK
}

func (a *account) goOn(day int) (string, api.Errno) {
	if day > api.MaxDay || day < a.day {
		return "", api.ErrRange
	}
	a.day = day
	return fmt.Sprintf("day %d", day), api.OK
}

func (a *account) permit(p api.Permit) (string, api.Errno) {
	if !aWord.MatchString(p.Kinds[0]) || !aWord.MatchString(p.Place) || p.From > p.To || p.To > api.MaxDay || p.Most > 100 {
		return "", api.ErrInvalid
	}
	if len(a.permits) >= api.MaxPermits {
		return "", api.ErrLimit
	}
	a.permits = append(a.permits, p)
	return fmt.Sprintf("permits %d", len(a.permits)), api.OK
}

// signOf is the check sign of a number.
func signOf(n int) string {
	sum := 0
	for i, c := range fmt.Sprintf("%06d", n) {
		sum += (2 + i) * int(c-'0')
	}
	return "0X987654321"[sum%11 : sum%11+1]
}

func pieceName(n int, sign string) string {
	return strings.ToLower(fmt.Sprintf("%06d-%s-", n, signOf(n))) + sign
}

func (a *account) in(n int, p api.Piece, room int) (string, api.Errno) {
	if p.Day > a.day || room >= a.house.Rooms {
		return "", api.ErrRange
	}
	if !aWord.MatchString(p.Kind) || !aWord.MatchString(p.Place) {
		return "", api.ErrInvalid
	}
	if a.kept[n] != nil {
		return "", api.ErrDuplicate
	}
	if len(a.numbers) >= api.MaxPieces {
		return "", api.ErrLimit
	}
	if !allFiled(append(a.pieces(), p), a.permits) {
		return "", api.ErrPermit
	}
	label := map[string]string{"kind": p.Kind, "number": fmt.Sprintf("%06d", n) + strings.ToLower(signOf(n)), "place": p.Place, "taken": strconv.Itoa(p.Day)}
	a.numbers = append(a.numbers, n)
	a.kept[n] = &kept{piece: p, signs: []string{"whole"}, above: map[string]string{}, label: map[string]map[string]string{"whole": label}, room: room}
	return fmt.Sprintf("%06d-%s", n, signOf(n)), api.OK
}

// allFiled says anew whether each piece can have a permit: pieces are moved from place to place.
func allFiled(pieces []api.Piece, permits []api.Permit) bool {
	var places []api.Permit
	for _, p := range permits {
		places = append(places, slices.Repeat([]api.Permit{p}, p.Most)...)
	}
	holder := map[int]int{}
	var seat func(i int, met map[int]bool) bool
	seat = func(i int, met map[int]bool) bool {
		for k, p := range places {
			x := pieces[i]
			if met[k] || p.Kinds[0] != x.Kind || p.Place != x.Place || x.Day < p.From || x.Day > p.To {
				continue
			}
			met[k] = true
			if j, taken := holder[k]; !taken || seat(j, met) {
				holder[k] = i
				return true
			}
		}
		return false
	}
	for i := range pieces {
		if !seat(i, map[int]bool{}) {
			return false
		}
	}
	return true
}

func (k *kept) part(sign, other string) (string, api.Errno) {
	if !aWord.MatchString(other) {
		return "", api.ErrInvalid
	}
	if slices.Contains(k.signs, other) {
		return "", api.ErrDuplicate
	}
	if len(k.signs) >= api.MaxParts {
		return "", api.ErrLimit
	}
	k.signs = append(k.signs, other)
	k.above[other] = sign
	k.label[other] = maps.Clone(k.label[sign])
	return fmt.Sprintf("parts %d", len(k.signs)), api.OK
}

func (k *kept) write(sign, key, value string) (string, api.Errno) {
	if !aWord.MatchString(key) || !aWord.MatchString(value) {
		return "", api.ErrInvalid
	}
	for _, label := range k.label {
		if v, ok := label[key]; ok && v != value {
			return "", api.ErrData
		}
	}
	label := k.label[sign]
	if label[key] == "" && len(label) >= api.MaxFields {
		return "", api.ErrLimit
	}
	label[key] = value
	return fmt.Sprintf("fields %d", len(label)), api.OK
}

// isAbove says whether one part is another one or above it.
func (k *kept) isAbove(high, low string) bool {
	for low != "" && low != high {
		low = k.above[low]
	}
	return low == high
}

func (k *kept) data(sign string) string {
	all := map[string]bool{}
	for _, other := range k.signs {
		for key, value := range k.label[other] {
			if k.isAbove(sign, other) || k.isAbove(other, sign) {
				all[key+"="+value] = true
			}
		}
	}
	// No sign of a word comes before the one for equality, so keys are in their order.
	fields := slices.SortedFunc(maps.Keys(all), func(x, y string) int {
		return strings.Compare(strings.Replace(x, "=", " ", 1), strings.Replace(y, "=", " ", 1))
	})
	return strings.Join(fields, " ")
}

// at says who has a piece today.
func (a *account) at(piece string) string {
	for _, l := range a.loans {
		if l.Piece == piece && l.Back == 0 {
			return l.To
		}
	}
	return ""
}

func (a *account) lend(k *kept, n int, sign string, l api.Loan) (string, api.Errno) {
	for _, other := range k.signs {
		if (other == "whole" || other != sign && k.isAbove(other, sign)) && a.at(pieceName(n, other)) != "" {
			return "", api.ErrState
		}
	}
	if !aName.MatchString(l.To) || l.Due <= l.Out || l.Due > api.MaxDay {
		return "", api.ErrInvalid
	}
	if a.at(l.Piece) != "" {
		return "", api.ErrState
	}
	if len(a.loans) >= api.MaxLoans {
		return "", api.ErrLimit
	}
	a.loans = append(a.loans, l)
	return fmt.Sprintf("loans %d", len(a.loans)), api.OK
}

// open is the index of the loan by which a piece is out.
func (a *account) open(piece string) int {
	return slices.IndexFunc(a.loans, func(l api.Loan) bool { return l.Piece == piece && l.Back == 0 })
}

func (a *account) back(piece string) (string, api.Errno) {
	i := a.open(piece)
	if i < 0 {
		return "", api.ErrNone
	}
	if a.loans[i].Out >= a.day {
		return "", api.ErrState
	}
	a.loans[i].Back = a.day
	return "home", api.OK
}

func (a *account) renew(piece string, due int) (string, api.Errno) {
	i := a.open(piece)
	switch {
	case due > api.MaxDay:
		return "", api.ErrRange
	case i < 0:
		return "", api.ErrNone
	case a.loans[i].Due >= due:
		return "", api.ErrState
	}
	a.loans[i].Due = due
	return fmt.Sprintf("due %d", due), api.OK
}

func (a *account) move(k *kept, n, room int) (string, api.Errno) {
	if room >= a.house.Rooms {
		return "", api.ErrRange
	}
	if a.at(pieceName(n, "whole")) != "" {
		return "", api.ErrState
	}
	k.room = room
	return fmt.Sprintf("room %d", room), api.OK
}

func (a *account) turn(door int, seal bool) (string, api.Errno) {
	if door >= len(a.house.Doors) {
		return "", api.ErrName
	}
	if a.sealed[door] == seal {
		return "", api.ErrState
	}
	if seal {
		a.sealed[door] = true
	} else {
		delete(a.sealed, door)
	}
	return fmt.Sprintf("sealed %d", len(a.sealed)), api.OK
}

// infested are the rooms to which pests come.
func (a *account) infested() map[int]bool {
	rooms := map[int]bool{}
	for room := range a.house.Rooms {
		rooms[room] = a.house.Infested&(1<<room) != 0
	}
	for range a.house.Rooms {
		for i, d := range a.house.Doors {
			if !a.sealed[i] && (rooms[d.A] || rooms[d.B]) {
				rooms[d.A], rooms[d.B] = true, true
			}
		}
	}
	return rooms
}

func (a *account) danger() string {
	rooms := a.infested()
	list := ""
	for _, n := range slices.Sorted(slices.Values(a.numbers)) {
		if rooms[a.kept[n].room] {
			list += fmt.Sprintf(" %d", n)
		}
	}
	if list == "" {
		return "none"
	}
	return list[1:]
}

func (a *account) pieces() []api.Piece {
	var list []api.Piece
	for _, n := range a.numbers {
		list = append(list, a.kept[n].piece)
	}
	return list
}

// face is what rooms must tell of themselves.
func (a *account) face() string {
	numbers := slices.Sorted(slices.Values(a.numbers))
	var parts [][]api.Part
	for _, n := range numbers {
		k := a.kept[n]
		var p []api.Part
		for _, sign := range k.signs {
			x := api.Part{Sign: sign, From: slices.Index(k.signs, k.above[sign])}
			for _, key := range slices.Sorted(maps.Keys(k.label[sign])) {
				x.Label = append(x.Label, api.Field{Key: key, Value: k.label[sign][key]})
			}
			p = append(p, x)
		}
		parts = append(parts, p)
	}
	return fmt.Sprint(a.day, numbers, parts, a.loans, a.permits, a.pieces(), slices.Sorted(maps.Keys(a.sealed))) + "\n" + bookOf(a.texts...)
}
