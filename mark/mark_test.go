package mark_test

import (
	"math"
	"slices"
	"testing"

	"armature/api"
	"armature/mark"
)

// notMarks are texts that have not the form of a mark.
func notMarks() []string {
	return []string{
		"", "1", "-", "123456", "123456-", "123456-10", "12345-9", "1234567-9", "1234569", "12345678", "123456_9",
		"123456-x", "123456-A", "123456-9 ", " 123456-9", "12345a-9", "-12345-9", "+12345-9", "12345 -9", "123-456-9",
		"12345é-9", "1234é-9", "１23-9", "123456-é", "\xff23456-9", "123456-\xff", "123456-\x00", "123456-9\n",
	}
}

func TestP12Examples(t *testing.T) {
	for _, c := range []struct {
		n    int
		mark string
	}{{123456, "123456-9"}, {5, "000005-9"}, {0, "000000-0"}, {8, "000008-X"}, {999999, "999999-X"}, {100000, "100000-9"}, {200, "000200-1"}} {
		if m, e := mark.Mark(c.n); m != c.mark || e != api.OK {
			t.Errorf("Mark(%d) = %q, %d", c.n, m, e)
		}
		if s, e := mark.Sign(c.n); s != c.mark[7:] || e != api.OK {
			t.Errorf("Sign(%d) = %q, %d", c.n, s, e)
		}
		if n, e := mark.Number(c.mark); n != c.n || e != api.OK {
			t.Errorf("Number(%q) = %d, %d", c.mark, n, e)
		}
	}
}

func TestP12OutOfRange(t *testing.T) {
	for _, n := range []int{-1, api.MaxNumber + 1, math.MinInt, math.MaxInt, -123456} {
		if s, e := mark.Sign(n); s != "" || e != api.ErrRange {
			t.Errorf("Sign(%d) = %q, %d", n, s, e)
		}
		if s, e := mark.Mark(n); s != "" || e != api.ErrRange {
			t.Errorf("Mark(%d) = %q, %d", n, s, e)
		}
	}
}

func TestP12NumberOfMark(t *testing.T) {
	for n := range api.MaxNumber + 1 {
		m := mustMark(n)
		if k, e := mark.Number(m); k != n || e != api.OK {
			t.Fatalf("Number(%q) = %d, %d", m, k, e)
		}
		sum, place := 0, 100000
		for w := 2; w <= 7; w++ {
			sum += w * (n / place % 10)
			place /= 10
		}
		sign := int(m[7] - '0')
		if m[7] == 'X' {
			sign = 10
		}
		if len(m) != 8 || (sum+sign)%11 != 0 {
			t.Fatalf("Mark(%d) = %q", n, m)
		}
	}
}

func TestP12Syntax(t *testing.T) {
	for _, s := range notMarks() {
		if n, e := mark.Number(s); n != 0 || e != api.ErrSyntax {
			t.Errorf("Number(%q) = %d, %d", s, n, e)
		}
		if l, e := mark.Near(s); len(l) != 0 || e != api.ErrSyntax {
			t.Errorf("Near(%q) = %v, %d", s, l, e)
		}
	}
}

func TestP12OneSignChanged(t *testing.T) {
	for n := 0; n <= api.MaxNumber; n += 9973 {
		m := mustMark(n)
		for i := range m {
			for b := range 256 {
				changed := []byte(m)
				changed[i] = byte(b)
				want := api.ErrSyntax
				if i != 6 && (b >= '0' && b <= '9' || i == 7 && b == 'X') {
					want = api.ErrSum
				}
				if k, e := mark.Number(string(changed)); string(changed) != m && (k != 0 || e != want) {
					t.Fatalf("Number(%q) = %d, %d; it was %q", changed, k, e, m)
				}
			}
		}
	}
}

func TestP12NeighboursExchanged(t *testing.T) {
	for n := 0; n <= api.MaxNumber; n += 7 {
		m := mustMark(n)
		for i := range 5 {
			changed := []byte(m)
			changed[i], changed[i+1] = m[i+1], m[i]
			if k, e := mark.Number(string(changed)); m[i] != m[i+1] && (k != 0 || e != api.ErrSum) {
				t.Fatalf("Number(%q) = %d, %d; it was %q", changed, k, e, m)
			}
		}
	}
}

func TestP12Near(t *testing.T) {
	marks := make([]string, api.MaxNumber+1)
	for n := range marks {
		marks[n] = mustMark(n)
	}
	for _, s := range []string{"123456-9", "123456-8", "000000-0", "000000-X", "999999-X", "999999-7", "000005-9", "500000-3", "190919-X", "000008-X"} {
		var want []int
		for n, m := range marks {
			if differences(m, s) <= 1 {
				want = append(want, n)
			}
		}
		l, e := mark.Near(s)
		if e != api.OK || !slices.Equal(l, want) {
			t.Errorf("Near(%q) = %v, %d; want %v", s, l, e, want)
		}
	}
}

func differences(a, b string) int {
	n := 0
	for i := range a {
		if a[i] != b[i] {
			n++
		}
	}
	return n
}

func TestP12NearHasItsDigits(t *testing.T) {
	for _, sign := range "0123456789X" {
		if l, e := mark.Near("123456-" + string(sign)); e != api.OK || !slices.Contains(l, 123456) {
			t.Errorf("Near(123456-%c) = %v, %d", sign, l, e)
		}
	}
}
