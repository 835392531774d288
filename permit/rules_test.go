package permit_test

import (
	"math"
	"reflect"
	"slices"
	"strings"
	"testing"

	"armature/api"
	"armature/permit"
)

// calls makes every call of the package with some arguments, and returns the results of each.
func calls(pieces []api.Piece, permits []api.Permit, filing []int, s api.Short, i, k int, text string) map[string][]any {
	out := map[string][]any{
		"Valid": {permit.Valid(pieces, permits)}, "Right": {permit.Right(pieces, permits, filing)}, "Full": {permit.Full(filing)},
		"Proves": {permit.Proves(pieces, permits, s)}, "Format": {permit.Format(permits)},
	}
	keep := func(name string, e api.Errno, results ...any) { out[name] = append(results, e) }
	var x api.Piece
	var p api.Permit
	if len(pieces) > 0 {
		x = pieces[len(pieces)-1]
	}
	if len(permits) > 0 {
		p = permits[len(permits)-1]
	}
	out["ValidPiece"], out["ValidPermit"] = []any{permit.ValidPiece(x)}, []any{permit.ValidPermit(p)}
	covered, e := permit.Covers(p, x)
	keep("Covers", e, covered)
	file, e := permit.File(pieces, permits)
	keep("File", e, file)
	short, e := permit.Shortage(pieces, permits)
	keep("Shortage", e, short.Pieces, short.Permits)
	most, e := permit.Most(pieces, permits)
	keep("Most", e, most)
	best, e := permit.Best(pieces, permits)
	keep("Best", e, best)
	left, e := permit.Left(pieces, permits, filing)
	keep("Left", e, left)
	uncovered, e := permit.Uncovered(pieces, permits)
	keep("Uncovered", e, uncovered)
	needed, e := permit.Needed(pieces, permits)
	keep("Needed", e, needed)
	tight, e := permit.Tight(pieces, permits)
	keep("Tight", e, tight)
	moved, e := permit.Moved(pieces, permits, filing, i, k)
	keep("Moved", e, moved)
	expired, e := permit.Expired(permits, k)
	keep("Expired", e, expired)
	read, line, e := permit.Parse(text)
	if e == api.ErrSyntax {
		line = 0 // the section says that it comes with this error
	}
	keep("Parse", e, read, line)
	return out
}

func zero(x any) bool {
	v := reflect.ValueOf(x)
	return v.IsZero() || v.Kind() == reflect.Slice && v.Len() == 0
}

func TestP21EndsWithoutPanic(t *testing.T) {
	numbers := []int{math.MinInt, -2, -1, 0, 1, 12, 40, api.MaxDay, api.MaxDay + 1, math.MaxInt}
	texts := []string{"", "\n", "\xff", bookText, bookText + "x", strings.Repeat("a ", 1<<15), strings.Repeat("\n", 1<<20)}
	huge := strings.Repeat("a", 1<<20)
	lists := [][]int{nil, {0}, {-1, -1}, {1, 0}, {-2}, numbers, slices.Repeat([]int{-1}, 40), slices.Repeat([]int{math.MaxInt}, 5000)}
	try := func(pieces []api.Piece, permits []api.Permit) {
		for a, l := range lists {
			i, k := numbers[a%len(numbers)], numbers[(a*3+len(pieces))%len(numbers)]
			for name, results := range calls(pieces, permits, l, api.Short{Pieces: l, Permits: lists[(a+1)%len(lists)]}, i, k, texts[a%len(texts)]) {
				last := len(results) - 1
				if e, failed := results[last].(api.Errno); failed && e != api.OK && slices.ContainsFunc(results[:last], func(x any) bool { return !zero(x) }) {
					t.Fatalf("%s: %v", name, results)
				}
			}
		}
	}
	wrongBooks(try)
	try(nil, nil)
	try(owls(40), leaves(12))
	try(chain())
	try(owls(5000), leaves(5000))
	try([]api.Piece{{Kind: huge, Place: huge, Day: math.MinInt}}, []api.Permit{{Kinds: slices.Repeat([]string{huge}, 1000), Place: huge, From: math.MinInt, To: math.MaxInt, Most: math.MaxInt}})
	try(owls(1), []api.Permit{{Kinds: []string{"owl"}, Place: "york", From: math.MinInt, To: math.MaxInt, Most: math.MaxInt}})
}

func TestP1SameCallSameResult(t *testing.T) {
	d := dice(13)
	for range 40 {
		pieces, permits := d.desk(40, 12, 6)
		l, _ := permit.Best(pieces, permits)
		use := func() map[string][]any { return calls(pieces, permits, l, api.Short{Pieces: l}, 0, -1, bookText) }
		first := use()
		for range 10 {
			if again := use(); !reflect.DeepEqual(first, again) {
				t.Fatalf("%v, then %v", first, again)
			}
		}
	}
}

func TestP1NilIsEmpty(t *testing.T) {
	a := calls(nil, nil, nil, api.Short{}, 0, 0, "")
	b := calls([]api.Piece{}, []api.Permit{}, []int{}, api.Short{Pieces: []int{}, Permits: []int{}}, 0, 0, "")
	for name := range a {
		if !slices.EqualFunc(a[name], b[name], func(x, y any) bool { return reflect.DeepEqual(x, y) || zero(x) && zero(y) }) {
			t.Errorf("%s: %v of nil, %v of the empty ones", name, a[name], b[name])
		}
	}
	for _, s := range []api.Short{{Pieces: []int{0}}, {Pieces: []int{0}, Permits: []int{}}} {
		if !permit.Proves(owls(1), nil, s) || !permit.Proves(owls(1), []api.Permit{leave(1, "fox")}, s) {
			t.Errorf("Proves(%v) = false", s)
		}
	}
}

// spare puts a list at the beginning of longer memory.
func spare[T any](l []T, more T) []T {
	return slices.Concat(l, []T{more, more})[:len(l)]
}

// memory copies all of a list's memory, beyond its length too.
func memory[T any](l []T) []T { return slices.Clone(l[:cap(l)]) }

// spoil writes over all memory of a result.
func spoil(x any) {
	switch l := x.(type) {
	case []int:
		for i := range l[:cap(l)] {
			l[:cap(l)][i] = -7
		}
	case []api.Permit:
		for i, p := range l[:cap(l)] {
			for j := range p.Kinds[:cap(p.Kinds)] {
				p.Kinds[:cap(p.Kinds)][j] = "spoilt"
			}
			l[:cap(l)][i] = leave(77, "spoilt")
		}
	}
}

func spoilAll(results map[string][]any) {
	for _, l := range results {
		for _, x := range l {
			spoil(x)
		}
	}
}

func TestP21ArgumentsStay(t *testing.T) {
	d := dice(14)
	for range 200 {
		pieces, permits := d.desk(8, 4, 3)
		pieces, permits = spare(pieces, piece("spare", 1)), spare(permits, leave(1, "spare"))
		var kinds, kindsBefore [][]string
		for k := range permits {
			permits[k].Kinds = spare(permits[k].Kinds, "spare")
			kinds, kindsBefore = append(kinds, permits[k].Kinds), append(kindsBefore, memory(permits[k].Kinds))
		}
		best, _ := permit.Best(pieces, permits)
		filing := spare(best, 77)
		short, _ := permit.Shortage(pieces, permits)
		s := api.Short{Pieces: spare(short.Pieces, 77), Permits: spare(short.Permits, 77)}
		before := []any{memory(pieces), memory(permits), memory(filing), memory(s.Pieces), memory(s.Permits)}
		spoilAll(calls(pieces, permits, filing, s, 0, -1, bookText))
		after := []any{memory(pieces), memory(permits), memory(filing), memory(s.Pieces), memory(s.Permits)}
		for k := range kinds {
			kinds[k] = memory(kinds[k])
		}
		if !reflect.DeepEqual(before, after) || !reflect.DeepEqual(kinds, kindsBefore) {
			t.Fatalf("%v became %v", before, after)
		}
	}
}

func TestP21ResultsAreNew(t *testing.T) {
	use := func() map[string][]any {
		pieces, permits := mixed()
		return calls(append(pieces, owls(1)...), permits, []int{1, 0, -1}, api.Short{Pieces: []int{0, 1, 2}}, 0, -1, bookText)
	}
	first, second := use(), use()
	spoilAll(second)
	if want := use(); !reflect.DeepEqual(first, want) {
		t.Errorf("%v; want %v", first, want)
	}
	for name, l := range first {
		spoil(l[0])
		if again := use()[name]; len(l) > 2 && !reflect.DeepEqual(l[1:], again[1:]) {
			t.Errorf("%s: %v; want %v", name, l, again)
		}
	}
	p, _, _ := permit.Parse(bookText)
	for i := range p[0].Kinds[:cap(p[0].Kinds)] {
		p[0].Kinds[:cap(p[0].Kinds)][i] = "spoilt"
	}
	if p[1].Kinds[0] != "0a" {
		t.Error("the kinds of two permits share memory")
	}
}

// TestP21Quick would not end in the time of a test if ways were walked again and again.
func TestP21Quick(t *testing.T) {
	d := dice(15)
	for range 20 {
		pieces, permits := chain()
		for k := range permits {
			permits[k].Most = d.throw(5)
		}
		calls(pieces, permits, slices.Repeat([]int{-1}, 40), api.Short{}, 0, 0, bookText)
		calls(owls(40), leaves(12), nil, api.Short{}, 0, 0, bookText)
	}
}
