package scene

import "armature/api"

// Looks returns how high something in a row looks.
func Looks(g api.Ground, e api.Eye, y, height int) (api.Ratio, api.Errno) {
	if err := checked(isRow(g, y) && within(0, maxPoint, height), g, e); err != api.OK {
		return api.Ratio{}, err
	}
	return ratio(height*e.Before, y+e.Before), api.OK
}

// Same returns how high something in another row must be to look as high as something in a row.
func Same(g api.Ground, e api.Eye, y, height, to int) (api.Ratio, api.Errno) {
	if err := checked(isRow(g, y) && isRow(g, to) && within(0, maxPoint, height), g, e); err != api.OK {
		return api.Ratio{}, err
	}
	return ratio(height*(to+e.Before), y+e.Before), api.OK
}

// ratio returns a fraction in lowest terms; n is not below 0, and d above it.
func ratio(n, d int) api.Ratio {
	divisor, rest := d, n
	for rest > 0 {
		divisor, rest = rest, divisor%rest
	}
	return api.Ratio{N: n / divisor, D: d / divisor}
}
