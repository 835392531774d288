package permit_test

import (
	"math"
	"slices"
	"testing"

	"armature/api"
	"armature/permit"
)

func TestP21Right(t *testing.T) {
	small(1, 300, func(pieces []api.Piece, permits []api.Permit) {
		for _, l := range filings(len(pieces), len(permits)) {
			if ok := permit.Right(pieces, permits, l); ok != right(pieces, permits, l) {
				t.Fatalf("Right(%v, %v, %v) = %t", pieces, permits, l, ok)
			}
		}
	})
}

func TestP21RightOfWrongFilings(t *testing.T) {
	pieces, permits := mixed()
	for _, l := range [][]int{nil, {}, {1}, {1, 0, -1}, {1, 2}, {1, -2}, {math.MinInt, 0}, {math.MaxInt, 0}, {0, 0}, {1, 1}} {
		if permit.Right(pieces, permits, l) {
			t.Errorf("Right(%v) = true", l)
		}
	}
	if !permit.Right(nil, permits, nil) || !permit.Right(nil, nil, nil) || permit.Right(nil, nil, []int{-1}) {
		t.Error("Right without pieces")
	}
	wrongBooks(func(pieces []api.Piece, permits []api.Permit) {
		if permit.Right(pieces, permits, slices.Repeat([]int{-1}, len(pieces))) {
			t.Errorf("Right(%v, %v) = true", pieces, permits)
		}
	})
}

func TestP21Full(t *testing.T) {
	for _, l := range [][]int{nil, {}, {0}, {3, 0, 11}} {
		if !permit.Full(l) {
			t.Errorf("Full(%v) = false", l)
		}
	}
	for _, l := range [][]int{{-1}, {0, -1}, {-1, 0}, {0, -1, 0}, {-2}, {0, math.MinInt}} {
		if permit.Full(l) {
			t.Errorf("Full(%v) = true", l)
		}
	}
}

func TestP25Left(t *testing.T) {
	small(2, 300, func(pieces []api.Piece, permits []api.Permit) {
		for _, l := range filings(len(pieces), len(permits)) {
			left, e := permit.Left(pieces, permits, l)
			if !right(pieces, permits, l) {
				if e != api.ErrInvalid || len(left) != 0 {
					t.Fatalf("Left(%v, %v, %v) = %v, %d", pieces, permits, l, left, e)
				}
				continue
			}
			if e != api.OK || len(left) != len(permits) {
				t.Fatalf("Left(%v, %v, %v) = %v, %d", pieces, permits, l, left, e)
			}
			sum := count(l)
			for k, n := range left {
				filed := slices.DeleteFunc(slices.Clone(l), func(at int) bool { return at != k })
				if n < 0 || n != permits[k].Most-len(filed) {
					t.Fatalf("Left(%v, %v, %v) = %v", pieces, permits, l, left)
				}
				sum += n - permits[k].Most
			}
			if sum != 0 {
				t.Fatalf("Left(%v, %v, %v) = %v adds up to %d too many", pieces, permits, l, left, sum)
			}
		}
	})
}

func TestP22File(t *testing.T) {
	small(3, 1500, func(pieces []api.Piece, permits []api.Permit) {
		full := slices.DeleteFunc(rightFilings(pieces, permits), func(l []int) bool { return slices.Contains(l, -1) })
		got, e := permit.File(pieces, permits)
		if len(full) == 0 {
			if e != api.ErrPermit || len(got) != 0 {
				t.Fatalf("File(%v, %v) = %v, %d", pieces, permits, got, e)
			}
			return
		}
		if want := slices.MinFunc(full, slices.Compare); e != api.OK || !slices.Equal(got, want) || !permit.Right(pieces, permits, got) || !permit.Full(got) {
			t.Fatalf("File(%v, %v) = %v, %d; want %v", pieces, permits, got, e, want)
		}
	})
}

func TestP22FileEdges(t *testing.T) {
	for _, permits := range [][]api.Permit{nil, leaves(12)} {
		if l, e := permit.File(nil, permits); e != api.OK || len(l) != 0 {
			t.Errorf("File without pieces = %v, %d", l, e)
		}
	}
	if l, e := permit.File(owls(1), nil); e != api.ErrPermit || len(l) != 0 {
		t.Errorf("File without permits = %v, %d", l, e)
	}
	if l, e := permit.File(owls(2), leaves(1)); e != api.ErrPermit || len(l) != 0 {
		t.Errorf("File of two owls = %v, %d", l, e)
	}
	pieces, permits := mixed()
	if l, e := permit.File(pieces, permits); e != api.OK || !slices.Equal(l, []int{1, 0}) {
		t.Errorf("File = %v, %d", l, e)
	}
	all := []api.Permit{leave(0, "owl"), leave(39, "owl"), leave(100, "owl")}
	if l, e := permit.File(owls(40), all); e != api.OK || !slices.Equal(l, append(slices.Repeat([]int{1}, 39), 2)) {
		t.Errorf("File of 40 = %v, %d", l, e)
	}
}

func TestP23Best(t *testing.T) {
	small(4, 1500, func(pieces []api.Piece, permits []api.Permit) {
		want := greatest(pieces, permits)
		got, e := permit.Best(pieces, permits)
		if e != api.OK || !slices.Equal(got, want) || !permit.Right(pieces, permits, got) {
			t.Fatalf("Best(%v, %v) = %v, %d; want %v", pieces, permits, got, e, want)
		}
		if n, e := permit.Most(pieces, permits); e != api.OK || n != count(want) {
			t.Fatalf("Most(%v, %v) = %d, %d; want %d", pieces, permits, n, e, count(want))
		}
	})
}

func TestP23BestEdges(t *testing.T) {
	for _, c := range []struct {
		pieces  []api.Piece
		permits []api.Permit
		want    []int
	}{
		{owls(2), leaves(1), []int{0, -1}},
		{owls(3), nil, []int{-1, -1, -1}},
		{owls(2), []api.Permit{leave(0, "owl"), leave(1, "owl")}, []int{1, -1}},
		{nil, leaves(3), nil},
		// A lesser permit for the first piece counts for more than any permit for the second.
		{[]api.Piece{piece("owl", 1), piece("fox", 1), piece("bat", 1)}, []api.Permit{leave(1, "fox", "owl"), leave(1, "bat", "owl")}, []int{0, -1, 1}},
		// Many pieces must go elsewhere, one after the other, so that the last has a place.
		{[]api.Piece{piece("a", 1), piece("b", 1), piece("c", 1), piece("d", 1)}, []api.Permit{leave(1, "a", "d"), leave(1, "a", "b"), leave(1, "b", "c"), leave(1, "c")}, []int{1, 2, 3, 0}},
	} {
		if l, e := permit.Best(c.pieces, c.permits); e != api.OK || !slices.Equal(l, c.want) {
			t.Errorf("Best(%v, %v) = %v, %d; want %v", c.pieces, c.permits, l, e, c.want)
		}
	}
}

// chain is 40 pieces and 12 permits, where each piece can be under two that follow each other.
func chain() ([]api.Piece, []api.Permit) {
	letters := []string{"a", "b", "c", "d", "e", "f", "g", "h", "i", "j", "k", "l", "m"}
	var pieces []api.Piece
	for i := range api.MaxPieces {
		pieces = append(pieces, piece(letters[1+i%11], 1))
	}
	var permits []api.Permit
	for k := range api.MaxPermits {
		permits = append(permits, leave(3, letters[k], letters[k+1]))
	}
	return pieces, permits
}

func TestP23Greatest(t *testing.T) {
	d := dice(5)
	for i := range 150 {
		pieces, permits := d.desk(40, 12, 6)
		if i == 0 {
			pieces, permits = chain()
		}
		l, e := permit.Best(pieces, permits)
		if e != api.OK || !right(pieces, permits, l) || count(l) != mustMost(pieces, permits) {
			t.Fatalf("Best(%v, %v) = %v, %d", pieces, permits, l, e)
		}
		// As many as the places of some permits and the pieces that only others cover: then no filing has more.
		bound := len(pieces)
		for some := range 1 << len(permits) {
			bound = min(bound, limit(pieces, permits, some))
		}
		if bound != count(l) {
			t.Fatalf("Best(%v, %v) = %v; there may be %d", pieces, permits, l, bound)
		}
	}
}

// limit is the places of some permits (told by bits) and the pieces that another permit covers.
func limit(pieces []api.Piece, permits []api.Permit, some int) int {
	n := 0
	for k, p := range permits {
		if some>>k&1 == 1 {
			n += p.Most
		}
	}
	for _, x := range pieces {
		for k, p := range permits {
			if some>>k&1 == 0 && covered(p, x) {
				n++
				break
			}
		}
	}
	return n
}

func TestP23MoreIsNeverLess(t *testing.T) {
	d := dice(6)
	for range 300 {
		pieces, permits := d.desk(20, 10, 4)
		_, more := d.desk(0, 1, 4)
		most := mustMost(pieces, permits)
		if n := mustMost(pieces, slices.Concat(permits, more)); n < most {
			t.Fatalf("Most(%v, %v) = %d; with %v it is %d", pieces, permits, most, more, n)
		}
		for k, p := range permits {
			if n := mustMost(pieces, withMost(permits, k, p.Most+1)); n < most || n > most+1 {
				t.Fatalf("Most(%v, %v) = %d; with one more of %d it is %d", pieces, permits, most, k, n)
			}
		}
	}
}

func TestP24Needed(t *testing.T) {
	small(7, 1000, func(pieces []api.Piece, permits []api.Permit) {
		var needed, tight []int
		for k, p := range permits {
			if count(greatest(pieces, withMost(permits, k, 0))) < count(greatest(pieces, permits)) {
				needed = append(needed, k)
			}
			if count(greatest(pieces, withMost(permits, k, p.Most+1))) > count(greatest(pieces, permits)) {
				tight = append(tight, k)
			}
		}
		if l, e := permit.Needed(pieces, permits); e != api.OK || !slices.Equal(l, needed) {
			t.Fatalf("Needed(%v, %v) = %v, %d; want %v", pieces, permits, l, e, needed)
		}
		if l, e := permit.Tight(pieces, permits); e != api.OK || !slices.Equal(l, tight) {
			t.Fatalf("Tight(%v, %v) = %v, %d; want %v", pieces, permits, l, e, tight)
		}
	})
}

func TestP24NeededEdges(t *testing.T) {
	for _, c := range []struct {
		pieces        []api.Piece
		permits       []api.Permit
		needed, tight []int
	}{
		{nil, leaves(2), nil, nil},
		{owls(3), nil, nil, nil},
		{owls(1), leaves(2), nil, nil},
		{owls(2), leaves(2), []int{0, 1}, nil},
		{owls(3), leaves(2), []int{0, 1}, []int{0, 1}},
		{owls(40), []api.Permit{leave(100, "owl")}, []int{0}, nil},
		{owls(2), []api.Permit{leave(0, "owl"), leave(1, "owl"), leave(1, "fox")}, []int{1}, []int{0, 1}},
		{append(owls(1), piece("fox", 1)), []api.Permit{leave(1, "fox", "owl"), leave(100, "owl")}, []int{0, 1}, nil},
	} {
		needed, e := permit.Needed(c.pieces, c.permits)
		tight, f := permit.Tight(c.pieces, c.permits)
		if e != api.OK || f != api.OK || !slices.Equal(needed, c.needed) || !slices.Equal(tight, c.tight) {
			t.Errorf("Needed(%v, %v) = %v, %d; Tight %v, %d", c.pieces, c.permits, needed, e, tight, f)
		}
	}
}

func TestP24Uncovered(t *testing.T) {
	small(8, 300, func(pieces []api.Piece, permits []api.Permit) {
		var want []int
		for i, x := range pieces {
			if !slices.ContainsFunc(permits, func(p api.Permit) bool { return covered(p, x) }) {
				want = append(want, i)
			}
		}
		got, e := permit.Uncovered(pieces, permits)
		if e != api.OK || !slices.Equal(got, want) {
			t.Fatalf("Uncovered(%v, %v) = %v, %d; want %v", pieces, permits, got, e, want)
		}
		for _, l := range filings(len(pieces), len(permits)) {
			for _, i := range got {
				if l[i] != -1 && permit.Right(pieces, permits, l) {
					t.Fatalf("Uncovered(%v, %v) = %v; Right(%v)", pieces, permits, got, l)
				}
			}
		}
	})
	if l, e := permit.Uncovered(owls(2), []api.Permit{leave(0, "owl")}); e != api.OK || len(l) != 0 {
		t.Errorf("Uncovered with a permit for none = %v, %d", l, e)
	}
}

func TestP24Moved(t *testing.T) {
	small(9, 60, func(pieces []api.Piece, permits []api.Permit) {
		for _, l := range rightFilings(pieces, permits) {
			for i := range pieces {
				for k := -1; k < len(permits); k++ {
					moved(t, pieces, permits, l, i, k)
				}
			}
		}
	})
}

// moved checks a move of a piece that there is to a permit that there is, or to none.
func moved(t *testing.T, pieces []api.Piece, permits []api.Permit, filing []int, i, k int) {
	want, e := slices.Clone(filing), api.OK
	want[i] = k
	if k >= 0 && !covered(permits[k], pieces[i]) {
		e = api.ErrPermit
	} else if !right(pieces, permits, want) {
		e = api.ErrState
	}
	if e != api.OK {
		want = nil
	}
	if got, f := permit.Moved(pieces, permits, filing, i, k); f != e || !slices.Equal(got, want) {
		t.Fatalf("Moved(%v, %v, %v, %d, %d) = %v, %d; want %v, %d", pieces, permits, filing, i, k, got, f, want, e)
	}
}

func TestP24MovedErrors(t *testing.T) {
	pieces, permits := mixed()
	for _, c := range []struct {
		filing        []int
		piece, permit int
		want          api.Errno
	}{
		{[]int{-1, 0}, 2, 0, api.ErrName}, {[]int{-1, 0}, -1, 0, api.ErrName}, {[]int{-1, 0}, 0, 2, api.ErrName}, {[]int{-1, 0}, 0, -2, api.ErrName}, {[]int{-1, 0}, 2, -1, api.ErrName},
		{[]int{-1, 0}, math.MaxInt, 0, api.ErrName}, {[]int{-1, 0}, math.MinInt, 0, api.ErrName}, {[]int{-1, 0}, 0, math.MaxInt, api.ErrName}, {[]int{-1, 0}, 0, math.MinInt, api.ErrName},
		{[]int{1, -1}, 1, 1, api.ErrPermit}, {[]int{-1, 0}, 0, 0, api.ErrState}, {[]int{-1, 0}, 1, 0, api.OK}, {[]int{-1, 0}, 0, -1, api.OK},
		{[]int{0, 0}, 0, 0, api.ErrInvalid}, {[]int{0}, 2, 0, api.ErrInvalid}, {nil, 0, 0, api.ErrInvalid}, {[]int{0, 1}, 9, 9, api.ErrInvalid}, {[]int{-2, 0}, 0, 1, api.ErrInvalid},
	} {
		l, e := permit.Moved(pieces, permits, c.filing, c.piece, c.permit)
		if e != c.want || e != api.OK && len(l) != 0 {
			t.Errorf("Moved(%v, %d, %d) = %v, %d", c.filing, c.piece, c.permit, l, e)
		}
	}
	if _, e := permit.Moved(nil, permits, nil, 0, 0); e != api.ErrName {
		t.Errorf("Moved without pieces = %d", e)
	}
}

func TestP21Invalid(t *testing.T) {
	wrongBooks(func(pieces []api.Piece, permits []api.Permit) {
		none := slices.Repeat([]int{-1}, len(pieces))
		for name, results := range calls(pieces, permits, none, api.Short{Pieces: []int{0}}, 99, -9, "") {
			e, failed := results[len(results)-1].(api.Errno)
			skip := name == "Covers" || name == "Parse" || name == "Expired" && permit.Valid(nil, permits)
			if failed && !skip && e != api.ErrInvalid {
				t.Errorf("%s(%v, %v) = %v", name, pieces, permits, results)
			}
		}
	})
}
