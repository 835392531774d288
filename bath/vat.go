package bath

import (
	"iter"

	"armature/api"
)

// Hour returns the vat after an hour.
func Hour(v api.Vat) (api.Vat, api.Errno) {
	if !ValidVat(v) {
		return api.Vat{}, api.ErrInvalid
	}
	return afterHour(v), api.OK
}

// Total returns what is in a vat's bath and skin and what is gone, together.
func Total(v api.Vat) (api.Bath, api.Errno) {
	if !ValidVat(v) {
		return api.Bath{}, api.ErrInvalid
	}
	return total(v), api.OK
}

// Balance returns how much salt and acid the skin would have at last.
func Balance(v api.Vat) (salt, acid int, e api.Errno) {
	if !ValidVat(v) {
		return 0, 0, api.ErrInvalid
	}
	salt, acid = balances(v)
	return salt, acid, api.OK
}

// Steady reports whether an hour changes nothing.
func Steady(v api.Vat) (bool, api.Errno) {
	if !ValidVat(v) {
		return false, api.ErrInvalid
	}
	return afterHour(v) == v, api.OK
}

// Until returns the first hour, of at most so many, after which the skin has at least some acid.
func Until(v api.Vat, acid, most int) (int, api.Errno) {
	return firstHour(v, acid, most, func(has int) bool { return has >= acid })
}

// Below returns the first hour, of at most so many, after which the skin has at most some acid.
func Below(v api.Vat, acid, most int) (int, api.Errno) {
	return firstHour(v, acid, most, func(has int) bool { return has <= acid })
}

func firstHour(v api.Vat, acid, most int, asked func(has int) bool) (int, api.Errno) {
	if !ValidVat(v) {
		return 0, api.ErrInvalid
	}
	if !within(api.MaxGrain, acid) || !within(maxHours, most) {
		return 0, api.ErrRange
	}
	for h, now := range hourly(v, most) {
		if asked(now.Skin.Acid) {
			return h, api.OK
		}
	}
	return 0, api.ErrNone
}

// hourly goes through the hours from 0 to most, with the vat after each.
func hourly(v api.Vat, most int) iter.Seq2[int, api.Vat] {
	return func(yield func(int, api.Vat) bool) {
		now := v
		for h := range most + 1 {
			if !yield(h, now) {
				return
			}
			now = afterHour(now)
		}
	}
}

func afterHour(v api.Vat) api.Vat {
	salt, acid := balances(v)
	salt = (salt - v.Skin.Salt) * v.Skin.Open / whole
	acid = (acid - v.Skin.Acid) * v.Skin.Open / whole
	v.Bath.Salt -= salt
	v.Skin.Salt += salt
	v.Bath.Acid -= acid
	v.Skin.Acid += acid
	return v
}

func balances(v api.Vat) (salt, acid int) {
	water := v.Bath.Water + v.Skin.Water
	if water == 0 {
		return v.Skin.Salt, v.Skin.Acid
	}
	salt = (v.Bath.Salt + v.Skin.Salt) * v.Skin.Water / water
	acid = (v.Bath.Acid + v.Skin.Acid) * v.Skin.Water / water
	return salt, acid
}

func total(v api.Vat) api.Bath {
	inSkin := api.Bath{Water: v.Skin.Water, Salt: v.Skin.Salt, Acid: v.Skin.Acid}
	return sum(v.Bath, inSkin, v.Gone)
}
