package mark

import (
	"iter"
	"slices"

	"armature/api"
)

// Valid reports whether parts begin with the whole, each other one was taken from one before it, and their signs and labels are as they must be.
func Valid(p []api.Part) bool {
	if len(p) == 0 || len(p) > api.MaxParts {
		return false
	}
	met := make(map[string]bool, len(p))
	for i, x := range p {
		if met[x.Sign] || !fits(x, i) {
			return false
		}
		met[x.Sign] = true
	}
	return true
}

// Clash returns the first two parts whose labels do not agree, and the first key that shows it.
func Clash(p []api.Part) (i, j int, key string, e api.Errno) {
	if !Valid(p) {
		return 0, 0, "", api.ErrInvalid
	}
	for i, x := range p {
		known := values(x.Label)
		for j, y := range p[i+1:] {
			if key, clash := firstClash(known, y.Label); clash {
				return i, i + 1 + j, key, api.OK
			}
		}
	}
	return 0, 0, "", api.ErrNone
}

// Data returns the fields of a part's label, of those above it and of those below it.
func Data(p []api.Part, i int) ([]api.Field, api.Errno) {
	if e := wrong(p, i); e != api.OK {
		return nil, e
	}
	labels := [][]api.Field{p[i].Label}
	for _, walk := range []iter.Seq[int]{above(p, i), below(p, i)} {
		for j := range walk {
			labels = append(labels, p[j].Label)
		}
	}
	data, agreed := gathered(labels...)
	if !agreed {
		return nil, api.ErrData
	}
	return data, api.OK
}

// Whole returns the data of the whole.
func Whole(p []api.Part) ([]api.Field, api.Errno) { return Data(p, 0) }

// Missing returns the parts whose own label does not have the whole's.
func Missing(p []api.Part) ([]int, api.Errno) {
	if !Valid(p) {
		return nil, api.ErrInvalid
	}
	var list []int
	for i, x := range p {
		if !Has(x.Label, p[0].Label) {
			list = append(list, i)
		}
	}
	return list, api.OK
}

// Below returns the parts that were taken from a part, directly or not.
func Below(p []api.Part, i int) ([]int, api.Errno) {
	if e := wrong(p, i); e != api.OK {
		return nil, e
	}
	return slices.Collect(below(p, i)), api.OK
}

// Find returns the part with a sign.
func Find(p []api.Part, sign string) (int, api.Errno) {
	if !Valid(p) || !Word(sign) {
		return 0, api.ErrInvalid
	}
	i := indexOf(p, sign)
	if i < 0 {
		return 0, api.ErrName
	}
	return i, api.OK
}

// Taken returns the parts with one more at the end, taken from a part and with that part's label.
func Taken(p []api.Part, i int, sign string) ([]api.Part, api.Errno) {
	if !Word(sign) {
		return nil, api.ErrInvalid
	}
	if e := wrong(p, i); e != api.OK {
		return nil, e
	}
	if indexOf(p, sign) >= 0 {
		return nil, api.ErrDuplicate
	}
	if len(p) == api.MaxParts {
		return nil, api.ErrLimit
	}
	return append(copied(p), api.Part{Sign: sign, From: i, Label: copiedLabel(p[i].Label)}), api.OK
}

// Written returns the parts with a field added to a part's label.
func Written(p []api.Part, i int, f api.Field) ([]api.Part, api.Errno) {
	if !validField(f) {
		return nil, api.ErrInvalid
	}
	if e := wrong(p, i); e != api.OK {
		return nil, e
	}
	label, agreed := gathered(p[i].Label, []api.Field{f})
	if !agreed || !agreesWithAll(label, p) {
		return nil, api.ErrData
	}
	if len(label) > api.MaxFields {
		return nil, api.ErrLimit
	}
	q := copied(p)
	q[i].Label = label
	return q, api.OK
}

// fits reports whether a part may have the index i; whether its sign is its own is not asked.
func fits(x api.Part, i int) bool {
	whole := i == 0 && x.From == -1
	taken := x.From >= 0 && x.From < i
	return (whole || taken) && Word(x.Sign) && ValidLabel(x.Label)
}

// wrong returns the error of parts and an index into them.
func wrong(p []api.Part, i int) api.Errno {
	if !Valid(p) {
		return api.ErrInvalid
	}
	if i < 0 || i >= len(p) {
		return api.ErrRange
	}
	return api.OK
}

// above goes from the part from which a part was taken up to the whole.
func above(p []api.Part, i int) iter.Seq[int] {
	return func(yield func(int) bool) {
		for j := p[i].From; j >= 0 && yield(j); {
			j = p[j].From
		}
	}
}

// below goes through the parts that were taken from a part, directly or not, in ascending order.
func below(p []api.Part, i int) iter.Seq[int] {
	return func(yield func(int) bool) {
		under := make([]bool, len(p))
		under[i] = true
		for j := i + 1; j < len(p); j++ {
			// The part from which another one was taken comes before it, so it has been decided.
			under[j] = under[p[j].From]
			if under[j] && !yield(j) {
				return
			}
		}
	}
}

func indexOf(p []api.Part, sign string) int {
	return slices.IndexFunc(p, func(x api.Part) bool { return x.Sign == sign })
}

// agreesWithAll asks for the fields alone: the label may have more of them than a valid one.
func agreesWithAll(label []api.Field, p []api.Part) bool {
	known := values(label)
	for _, x := range p {
		if _, clash := firstClash(known, x.Label); clash {
			return false
		}
	}
	return true
}

func copied(p []api.Part) []api.Part {
	q := make([]api.Part, 0, len(p)+1)
	for _, x := range p {
		x.Label = copiedLabel(x.Label)
		q = append(q, x)
	}
	return q
}

func copiedLabel(l []api.Field) []api.Field { return append([]api.Field(nil), l...) }
