package bath

import (
	"cmp"

	"armature/api"
)

// Strength returns a bath's acid for each grain of water.
func Strength(b api.Bath) (api.Ratio, api.Errno) {
	if !ValidBath(b) {
		return api.Ratio{}, api.ErrInvalid
	}
	if b.Water == 0 {
		return api.Ratio{}, api.ErrNone
	}
	d := divisor(b.Water, b.Acid)
	return api.Ratio{N: b.Acid / d, D: b.Water / d}, api.OK
}

// Stronger returns -1, 0 or 1 as a is weaker than b, as strong, or stronger.
func Stronger(a, b api.Bath) (int, api.Errno) {
	if !ValidBath(a) || !ValidBath(b) {
		return 0, api.ErrInvalid
	}
	if a.Water == 0 || b.Water == 0 {
		return 0, api.ErrNone
	}
	return cmp.Compare(a.Acid*b.Water, b.Acid*a.Water), api.OK
}

// Water returns how much water must be added, at least, so that a bath is no stronger than n / d.
func Water(b api.Bath, n, d int) (int, api.Errno) {
	if !ValidBath(b) {
		return 0, api.ErrInvalid
	}
	if !within(maxTerm, n, d) || d == 0 {
		return 0, api.ErrRange
	}
	// Without any water there is no strength, so even no acid asks for a grain.
	need := 1
	if b.Acid > 0 {
		if n == 0 {
			return 0, api.ErrNone
		}
		need = (b.Acid*d + n - 1) / n
	}
	if need > api.MaxGrain {
		return 0, api.ErrNone
	}
	return max(0, need-b.Water), api.OK
}

// Mixed returns two baths poured together.
func Mixed(a, b api.Bath) (api.Bath, api.Errno) {
	if !ValidBath(a) || !ValidBath(b) {
		return api.Bath{}, api.ErrInvalid
	}
	m := sum(a, b)
	if !ValidBath(m) {
		return api.Bath{}, api.ErrLimit
	}
	return m, api.OK
}

// Split returns so many thousandths of a bath, and the rest.
func Split(b api.Bath, part int) (one, rest api.Bath, e api.Errno) {
	if !ValidBath(b) {
		return api.Bath{}, api.Bath{}, api.ErrInvalid
	}
	if !within(whole, part) {
		return api.Bath{}, api.Bath{}, api.ErrRange
	}
	one, rest = parted(b, part)
	return one, rest, api.OK
}

func sum(baths ...api.Bath) api.Bath {
	var all api.Bath
	for _, b := range baths {
		all.Water += b.Water
		all.Salt += b.Salt
		all.Acid += b.Acid
	}
	return all
}

func parted(b api.Bath, thousandths int) (one, rest api.Bath) {
	part := func(n int) int { return n * thousandths / whole }
	one = api.Bath{Water: part(b.Water), Salt: part(b.Salt), Acid: part(b.Acid)}
	rest = api.Bath{Water: b.Water - one.Water, Salt: b.Salt - one.Salt, Acid: b.Acid - one.Acid}
	return one, rest
}

// divisor returns the greatest common divisor of two numbers.
func divisor(a, b int) int {
	for b > 0 {
		a, b = b, a%b
	}
	return a
}
