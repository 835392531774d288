package rooms

import (
	"slices"
	"strconv"
	"strings"

	"armature/api"
	"armature/loan"
	"armature/mark"
	"armature/permit"
	"armature/pest"
)

// What lines do: each of these asks for all errors, in their order, before it changes anything.

const whole = "whole"

func (x *Rooms) goOn(w words) string {
	day := w.numbers[0]
	refuseIf(day > api.MaxDay || day < x.day, api.ErrRange)
	x.day = day
	return counted("day", day)
}

func (x *Rooms) allow(w words) string {
	p := api.Permit{Kinds: []string{w.texts[0]}, Place: w.texts[1], From: w.numbers[0], To: w.numbers[1], Most: w.numbers[2]}
	refuseIf(!permit.ValidPermit(p), api.ErrInvalid)
	refuseIf(len(x.permits) == api.MaxPermits, api.ErrLimit)
	x.permits = append(x.permits, p)
	return counted("permits", len(x.permits))
}

func (x *Rooms) bring(w words) string {
	n, taken := w.numbers[0], w.numbers[1]
	m := sure(mark.Mark(n))
	refuseIf(taken > x.day, api.ErrRange)
	room := x.room(w.numbers[2])
	piece := api.Piece{Kind: w.texts[0], Place: w.texts[1], Day: taken}
	refuseIf(!permit.ValidPiece(piece), api.ErrInvalid)
	refuseIf(x.find(n) != nil, api.ErrDuplicate)
	refuseIf(len(x.specimens) == api.MaxPieces, api.ErrLimit)
	sure(permit.File(append(x.Pieces(), piece), x.permits))
	parts := []api.Part{{Sign: whole, From: -1, Label: labelOf(m, piece)}}
	x.specimens = append(x.specimens, specimen{n, m, piece, parts, room})
	return m
}

func (x *Rooms) take(w words) string {
	s, i := x.named(w)
	s.parts = sure(mark.Taken(s.parts, i, w.texts[1]))
	return counted("parts", len(s.parts))
}

func (x *Rooms) write(w words) string {
	s, i := x.named(w)
	s.parts = sure(mark.Written(s.parts, i, api.Field{Key: w.texts[1], Value: w.texts[2]}))
	return counted("fields", len(s.parts[i].Label))
}

func (x *Rooms) data(w words) string {
	s, i := x.named(w)
	var fields []string
	for _, f := range sure(mark.Data(s.parts, i)) {
		fields = append(fields, f.Key+"="+f.Value)
	}
	return listed(fields)
}

func (x *Rooms) lend(w words) string {
	s, i := x.named(w)
	// Nothing is above the whole: if it is lent itself, this comes first for it, too.
	above := max(0, s.parts[i].From)
	refuseIf(x.holder(s, above) != "", api.ErrState)
	x.loans = sure(loan.Lend(x.loans, api.Loan{Piece: s.lentAs(i), To: w.texts[1], Out: x.day, Due: w.numbers[1]}))
	return counted("loans", len(x.loans))
}

func (x *Rooms) back(w words) string {
	s, i := x.named(w)
	x.loans = sure(loan.Back(x.loans, s.lentAs(i), x.day))
	return "home"
}

func (x *Rooms) renew(w words) string {
	s, i := x.named(w)
	due := w.numbers[1]
	x.loans = sure(loan.Renew(x.loans, s.lentAs(i), due))
	return counted("due", due)
}

func (x *Rooms) where(w words) string {
	s, i := x.named(w)
	if to := x.holder(s, i); to != "" {
		return "at " + to
	}
	return counted("room", s.room)
}

func (x *Rooms) move(w words) string {
	s := x.specimen(w)
	room := x.room(w.numbers[1])
	refuseIf(x.holder(s, 0) != "", api.ErrState)
	s.room = room
	return counted("room", room)
}

func (x *Rooms) seal(w words) string {
	door := x.door(w)
	i, found := slices.BinarySearch(x.sealed, door)
	refuseIf(found, api.ErrState)
	x.sealed = slices.Insert(x.sealed, i, door)
	return counted("sealed", len(x.sealed))
}

func (x *Rooms) open(w words) string {
	i, found := slices.BinarySearch(x.sealed, x.door(w))
	refuseIf(!found, api.ErrState)
	x.sealed = slices.Delete(x.sealed, i, i+1)
	return counted("sealed", len(x.sealed))
}

func (x *Rooms) danger(words) string {
	rooms := sure(pest.Comes(x.house, x.sealed))
	var list []string
	for _, n := range x.Numbers() {
		if rooms>>x.find(n).room&1 == 1 {
			list = append(list, strconv.Itoa(n))
		}
	}
	return listed(list)
}

// specimen returns the one that a line's first number names.
func (x *Rooms) specimen(w words) *specimen {
	s := x.find(w.numbers[0])
	refuseIf(s == nil, api.ErrName)
	return s
}

// named returns the specimen and the part that a line's first words name.
func (x *Rooms) named(w words) (*specimen, int) {
	s := x.specimen(w)
	i, e := mark.Find(s.parts, w.texts[0])
	// A sign that is no word is just one that no part has.
	refuseIf(e != api.OK, api.ErrName)
	return s, i
}

func (x *Rooms) room(n int) int {
	refuseIf(n >= x.house.Rooms, api.ErrRange)
	return n
}

func (x *Rooms) door(w words) int {
	refuseIf(w.numbers[0] >= len(x.house.Doors), api.ErrName)
	return w.numbers[0]
}

// holder returns to whom a part is lent, or else the nearest part above it that is; nobody is the empty string.
func (x *Rooms) holder(s *specimen, i int) string {
	borrowers := map[string]string{}
	for _, k := range sure(loan.Out(x.loans, x.day)) {
		borrowers[x.loans[k].Piece] = x.loans[k].To
	}
	for ; i >= 0; i = s.parts[i].From {
		if to := borrowers[s.lentAs(i)]; to != "" {
			return to
		}
	}
	return ""
}

// lentAs returns the name of a part in loans.
func (s *specimen) lentAs(i int) string {
	return strings.ToLower(s.mark) + "-" + s.parts[i].Sign
}

// labelOf returns the label of a whole.
func labelOf(m string, p api.Piece) []api.Field {
	number := strings.ToLower(strings.ReplaceAll(m, "-", ""))
	return []api.Field{{Key: "kind", Value: p.Kind}, {Key: "number", Value: number}, {Key: "place", Value: p.Place}, {Key: "taken", Value: strconv.Itoa(p.Day)}}
}

func counted(what string, n int) string { return what + " " + strconv.Itoa(n) }

func listed(l []string) string {
	if len(l) == 0 {
		return "none"
	}
	return strings.Join(l, " ")
}
