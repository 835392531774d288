package mark

import (
	"maps"
	"slices"

	"armature/api"
)

// Word reports whether a text is a word: 1 to MaxWord small ASCII letters and digits.
func Word(s string) bool {
	if s == "" || len(s) > api.MaxWord {
		return false
	}
	for _, r := range s {
		if (r < 'a' || r > 'z') && (r < '0' || r > '9') {
			return false
		}
	}
	return true
}

// ValidLabel reports whether a label has at most MaxFields fields of words, with keys that ascend.
func ValidLabel(l []api.Field) bool {
	if len(l) > api.MaxFields {
		return false
	}
	for i, f := range l {
		if !validField(f) || i > 0 && l[i-1].Key >= f.Key {
			return false
		}
	}
	return true
}

// Has reports whether each field of b is one of a.
func Has(a, b []api.Field) bool {
	return validLabels(a, b) && len(common(a, b)) == len(b)
}

// Agree reports whether no key has different values in two labels.
func Agree(a, b []api.Field) bool {
	if !validLabels(a, b) {
		return false
	}
	_, clash := firstClash(values(a), b)
	return !clash
}

// Joined returns the label with the fields of both.
func Joined(a, b []api.Field) ([]api.Field, api.Errno) {
	if !validLabels(a, b) {
		return nil, api.ErrInvalid
	}
	l, agreed := gathered(a, b)
	if !agreed {
		return nil, api.ErrData
	}
	if len(l) > api.MaxFields {
		return nil, api.ErrLimit
	}
	return l, api.OK
}

// Both returns the label with the fields that two labels share.
func Both(a, b []api.Field) ([]api.Field, api.Errno) {
	if !validLabels(a, b) {
		return nil, api.ErrInvalid
	}
	return common(a, b), api.OK
}

func validField(f api.Field) bool { return Word(f.Key) && Word(f.Value) }

func validLabels(labels ...[]api.Field) bool {
	for _, l := range labels {
		if !ValidLabel(l) {
			return false
		}
	}
	return true
}

// values keeps the values of a label by their keys.
func values(l []api.Field) map[string]string {
	m := make(map[string]string, len(l))
	for _, f := range l {
		m[f.Key] = f.Value
	}
	return m
}

// firstClash returns the first key of a label that has another value among those that are known.
func firstClash(known map[string]string, l []api.Field) (string, bool) {
	for _, f := range l {
		if v, ok := known[f.Key]; ok && v != f.Value {
			return f.Key, true
		}
	}
	return "", false
}

func common(a, b []api.Field) []api.Field {
	known := values(a)
	var l []api.Field
	for _, f := range b {
		if v, ok := known[f.Key]; ok && v == f.Value {
			l = append(l, f)
		}
	}
	return l
}

// gathered returns the fields of all labels, by ascending keys and however many they are, if the labels agree.
func gathered(labels ...[]api.Field) ([]api.Field, bool) {
	known := map[string]string{}
	for _, l := range labels {
		if _, clash := firstClash(known, l); clash {
			return nil, false
		}
		maps.Copy(known, values(l))
	}
	all := make([]api.Field, 0, len(known))
	for _, key := range slices.Sorted(maps.Keys(known)) {
		all = append(all, api.Field{Key: key, Value: known[key]})
	}
	return all, true
}
