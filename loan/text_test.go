package loan_test

import (
	"slices"
	"strings"
	"testing"

	"armature/api"
	"armature/loan"
)

const owlsText = "owl york 5 20 30\nfox bath 7 9 0\nowl bath 30 40 0\n"

// longest is as many loans as there may be, with the longest names and numbers.
func longest() []api.Loan {
	l := row()
	for i := range l {
		l[i] = lent(strings.Repeat("x", maxName), strings.Repeat("-", maxName), lastDay-201+i, lastDay, lastDay-200+i)
	}
	return l
}

func TestP96Format(t *testing.T) {
	for _, c := range []struct {
		l    []api.Loan
		want string
	}{
		{nil, ""}, {[]api.Loan{}, ""}, {owls(), owlsText}, {owls()[:1], "owl york 5 20 30\n"}, {[]api.Loan{lent("0", "-", 0, 1, 0)}, "0 - 0 1 0\n"}, {[]api.Loan{lent("000005-9-whole", "0", 99999, lastDay, lastDay)}, "000005-9-whole 0 99999 100000 100000\n"}, {[]api.Loan{lent("b", "z", 8, 9, 0), lent("a", "y", 8, 10, 0)}, "b z 8 9 0\na y 8 10 0\n"},
	} {
		if s := loan.Format(c.l); s != c.want {
			t.Errorf("Format(%v) = %q; want %q", c.l, s, c.want)
		}
		if l, line, e := loan.Parse(c.want); line != 0 || !sameLoans(l, e, c.l, api.OK) {
			t.Errorf("Parse(%q) = %v, %d, %d", c.want, l, line, e)
		}
	}
	for _, l := range wrongLists() {
		if s := loan.Format(l); s != "" {
			t.Errorf("Format(%v) = %q", l, s)
		}
	}
}

func TestP96RoundTrip(t *testing.T) {
	all := [][]api.Loan{crowd(), row(), longest()}
	d := dice(51)
	for range 2000 {
		l, _ := d.loans(20)
		all = append(all, l)
	}
	for _, l := range all {
		if k, line, e := loan.Parse(loan.Format(l)); line != 0 || !sameLoans(k, e, l, api.OK) {
			t.Fatalf("Parse(Format(%v)) = %v, %d, %d", l, k, line, e)
		}
	}
}

func TestP96Syntax(t *testing.T) {
	most := loan.Format(crowd())
	for _, c := range []struct {
		s    string
		line int
	}{
		{"\n", 0}, {" ", 0}, {"owl", 0}, {"owl\n", 0}, {"owl york\n", 0}, {"owl york 5\n", 0}, {"owl york 5 20\n", 0}, {"owl york 5 20 \n", 0}, {"owl york 5 20 30", 0}, {"owl york 5 20 30 \n", 0}, {"owl york 5 20 30 0\n", 0}, {" owl york 5 20 30\n", 0}, {"owl  york 5 20 30\n", 0}, {"owl york 5 20  30\n", 0}, {"owl\tyork 5 20 30\n", 0}, {"owl york 5 20 30\r\n", 0}, {"\nowl york 5 20 30\n", 0}, {"owl york,5,20,30\n", 0}, {"owl york 5\u00a020 30\n", 0}, {"owl york 5 20 30\x00\n", 0}, {"owl york\n5 20 30\n", 0}, {"owl 5 20 30\n", 0}, {"5 20 30\n", 0},
		{"owl york 05 20 30\n", 0}, {"owl york 5 020 30\n", 0}, {"owl york 5 20 030\n", 0}, {"owl york 5 20 00\n", 0}, {"owl york +5 20 30\n", 0}, {"owl york 5 +20 30\n", 0}, {"owl york 5 20 +30\n", 0}, {"owl york -0 20 30\n", 0}, {"owl york 5 20 -0\n", 0}, {"owl york x 20 30\n", 0}, {"owl york 5 x 30\n", 0}, {"owl york 5 20 x\n", 0}, {"owl york 5 20 -\n", 0}, {"owl york 5 2_0 30\n", 0}, {"owl york 5 0x20 30\n", 0}, {"owl york 5 2e1 30\n", 0}, {"owl york 5 20.0 30\n", 0}, {"owl york 5 20 ٣\n", 0},
		{"owl york 5 5 0\n", 0}, {"owl york 5 4 0\n", 0}, {"owl york 5 20 5\n", 0}, {"owl york 5 20 4\n", 0}, {"owl york -1 20 30\n", 0}, {"owl york 5 -20 30\n", 0}, {"owl york 5 20 -1\n", 0}, {"owl york 5 100001 30\n", 0}, {"owl york 5 20 100001\n", 0}, {"owl york 100000 100001 0\n", 0}, {"owl york 5 99999999999999999999 30\n", 0}, {"owl york 5 20 99999999999999999999\n", 0}, {"owl york 18446744073709551621 20 30\n", 0}, {"owl york 5 18446744073709551636 30\n", 0}, {"owl york 5 20 18446744073709551646\n", 0}, {"owl york 5 9223372036854775807 30\n", 0}, {"owl york -9223372036854775808 20 30\n", 0}, {"owl york 5 -9223372036854775808 30\n", 0},
		{"Owl york 5 20 30\n", 0}, {"owl York 5 20 30\n", 0}, {"owl_1 york 5 20 30\n", 0}, {"öwl york 5 20 30\n", 0}, {"owl york. 5 20 30\n", 0}, {"owl " + strings.Repeat("y", maxName+1) + " 5 20 30\n", 0}, {strings.Repeat("o", maxName+1) + " york 5 20 30\n", 0}, {"owl \xff 5 20 30\n", 0},
		{"owl york 5 20 30\n\n", 1}, {"owl york 5 20 30\n ", 1}, {"owl york 5 20 30\nowl", 1}, {"owl york 5 20 30\nowl york 30 40 0", 1}, {"owl york 5 20 30\nfox york 4 5 6\n", 1}, {"owl york 5 20 30\nowl york 29 40 0\n", 1}, {"owl york 5 20 0\nowl york 30 40 0\n", 1}, {"owl york 5 20 0\nfox york 5 20 30\nowl york 30 40 50\n", 2}, {"owl york 5 20 30\nowl york 5 20 30\n", 1}, {"owl york 5 20 30\nX\nfox bath 7 9 0\nY\n", 1}, {"owl york 5 20 0\nowl bath 6 9 0\nX\n", 1},
		{owlsText + "\n", 3}, {owlsText + "emu kew 29 31 0\n", 3}, {owlsText + "owl kew 50 51 0\n", 3}, {owlsText + "fox kew 50 51 0\n", 3}, {owlsText + owlsText, 3}, {owlsText[:len(owlsText)-1], 2}, {owlsText + "emu kew 30 31 0", 3},
		{most + "owl york 8 9 0\n", 200}, {most + "\n", 200}, {most + "x", 200}, {most[:len(most)-1], 199}, {most + most, 200}, {"x\n" + most, 0}, {"owl york 8 9 0\n" + most, 200}, {loan.Format(row()) + "fox york 99999 100000 0\n", 200},
	} {
		if l, line, e := loan.Parse(c.s); line != c.line || !sameLoans(l, e, nil, api.ErrSyntax) {
			t.Errorf("Parse(%q) = %v, %d, %d; want %d", c.s, l, line, e, c.line)
		}
	}
}

func TestP96Long(t *testing.T) {
	for _, c := range []struct {
		s    string
		line int
		e    api.Errno
	}{
		{strings.Repeat("x", api.MaxText), 0, api.ErrSyntax}, {strings.Repeat("x", api.MaxText+1), 0, api.ErrLong}, {strings.Repeat("\n", 1<<20), 0, api.ErrLong}, {strings.Repeat("x ", api.MaxText/2), 0, api.ErrSyntax},
		{owlsText + strings.Repeat(" ", api.MaxText-len(owlsText)), 3, api.ErrSyntax}, {owlsText + strings.Repeat(" ", api.MaxText-len(owlsText)+1), 0, api.ErrLong}, {strings.Repeat(owlsText, 1<<12), 0, api.ErrLong},
	} {
		if l, line, e := loan.Parse(c.s); line != c.line || !sameLoans(l, e, nil, c.e) {
			t.Errorf("Parse of %d bytes = %v, %d, %d", len(c.s), l, line, e)
		}
	}
}

func TestP96Beginnings(t *testing.T) {
	for n := range len(owlsText) + 1 {
		s := owlsText[:n]
		lines := strings.Count(s, "\n")
		l, line, e := loan.Parse(s)
		if s == "" || strings.HasSuffix(s, "\n") {
			if line != 0 || !sameLoans(l, e, owls()[:lines], api.OK) {
				t.Errorf("Parse(%q) = %v, %d, %d", s, l, line, e)
			}
		} else if line != lines || !sameLoans(l, e, nil, api.ErrSyntax) {
			t.Errorf("Parse(%q) = %v, %d, %d", s, l, line, e)
		}
	}
}

func TestP96JustSuchTexts(t *testing.T) {
	right := 0
	for i := range owlsText {
		for n := range 256 {
			c := string([]byte{byte(n)})
			for _, s := range []string{owlsText[:i] + c + owlsText[i+1:], owlsText[:i] + c + owlsText[i:], owlsText[:i] + owlsText[i+1:]} {
				l, line, e := loan.Parse(s)
				if e == api.OK && line == 0 && len(l) > 0 && loan.Format(l) == s {
					right++
				} else if e != api.ErrSyntax || len(l) > 0 || line > strings.Count(s, "\n") {
					t.Fatalf("Parse(%q) = %v, %d, %d", s, l, line, e)
				}
			}
		}
	}
	if right < 1000 {
		t.Errorf("%d texts are read", right)
	}
}

// TestP96FirstWrong puts lines of loans that may be wrong together, and asks for the first one with which the loans are not valid.
func TestP96FirstWrong(t *testing.T) {
	d := dice(52)
	for range 2000 {
		l, first := d.loans(6)
		for range d.throw(3) {
			x := d.loan(d.piece(), d.between(first, first+window-1), first+window)
			l = slices.Insert(l, d.throw(len(l)+1), x)
		}
		var text strings.Builder
		want := -1
		for i, x := range l {
			text.WriteString(loan.Format([]api.Loan{x}))
			if want < 0 && !loan.Valid(l[:i+1]) {
				want = i
			}
		}
		k, line, e := loan.Parse(text.String())
		if want < 0 && (line != 0 || !sameLoans(k, e, l, api.OK)) || want >= 0 && (line != want || !sameLoans(k, e, nil, api.ErrSyntax)) {
			t.Fatalf("Parse(%q) = %v, %d, %d; want the line %d", text.String(), k, line, e, want)
		}
	}
}
