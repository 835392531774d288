package cold

import "armature/api"

// row is so many hours in a row, of whose temperatures something is asked.
type row struct {
	hours int
	asked func(temp int) bool
}

// Chill returns the least hour at which a chill ends that begins at an hour or later.
func Chill(f api.Freeze, l []api.Reading, end, from int) (int, api.Errno) {
	if e := checkRule(f, l, end, from); e != api.OK {
		return 0, e
	}
	return passed(l, end, from, chill(f))
}

// Thaw returns the least hour at which a thaw ends that begins at an hour or later.
func Thaw(f api.Freeze, l []api.Reading, end, from int) (int, api.Errno) {
	if e := checkRule(f, l, end, from); e != api.OK {
		return 0, e
	}
	return passed(l, end, from, thaws(f)...)
}

// Killed returns the least hour at which pests are killed.
func Killed(f api.Freeze, l []api.Reading, end int) (int, api.Errno) {
	if e := checkRule(f, l, end); e != api.OK {
		return 0, e
	}
	rows := []row{chill(f)}
	for range f.Times - 1 {
		rows = append(rows, thaws(f)...)
		rows = append(rows, chill(f))
	}
	return passed(l, end, l[0].Hour, rows...)
}

// checkRule looks at a rule, readings and their end, and at hours from which on something is asked for.
func checkRule(f api.Freeze, l []api.Reading, end int, from ...int) api.Errno {
	if !ValidRule(f) {
		return api.ErrInvalid
	}
	if e := check(l, end); e != api.OK {
		return e
	}
	if !within(l[0].Hour, end, from...) {
		return api.ErrRange
	}
	return api.OK
}

func chill(f api.Freeze) row {
	return row{f.Hours, func(temp int) bool { return temp <= f.Temp }}
}

// thaws returns the thaw of a rule, if it has one.
func thaws(f api.Freeze) []row {
	if f.Thaw == 0 {
		return nil
	}
	return []row{{f.Thaw, func(temp int) bool { return temp > f.Warm }}}
}

// passed returns the least hour at which the last one of some rows ends, each of them begun at the end of the one before (the first one at an hour that is given) or later.
func passed(l []api.Reading, end, from int, rows ...row) (int, api.Errno) {
	begin := from
walk:
	for s, temp := range stretches(l, end) {
		// More than one row may end within a stretch.
		for len(rows) > 0 {
			next := rows[0]
			if !next.asked(temp) {
				begin = max(begin, s.to)
				continue walk
			}
			if s.to-begin < next.hours {
				continue walk
			}
			begin += next.hours
			rows = rows[1:]
		}
		break walk
	}
	if len(rows) > 0 {
		return 0, api.ErrNone
	}
	return begin, api.OK
}
