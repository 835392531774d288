package cold

import (
	"iter"

	"armature/api"
)

// At returns the temperature in an hour.
func At(l []api.Reading, end, hour int) (int, api.Errno) {
	if e := check(l, end); e != api.OK {
		return 0, e
	}
	if !within(l[0].Hour, end-1, hour) {
		return 0, api.ErrRange
	}
	now := 0
	for s, temp := range stretches(l, end) {
		if hour < s.from {
			break
		}
		now = temp
	}
	return now, api.OK
}

// Cold returns how many hours have at most a temperature.
func Cold(l []api.Reading, end, temp int) (int, api.Errno) {
	if e := check(l, end, temp); e != api.OK {
		return 0, e
	}
	hours := 0
	for s, t := range stretches(l, end) {
		if t <= temp {
			hours += s.to - s.from
		}
	}
	return hours, api.OK
}

// Longest returns the first of the longest stretches of hours in a row with at most a temperature: its first hour and its length.
func Longest(l []api.Reading, end, temp int) (from, hours int, e api.Errno) {
	if e := check(l, end, temp); e != api.OK {
		return 0, 0, e
	}
	begin := l[0].Hour
	for s, t := range stretches(l, end) {
		if t > temp {
			begin = s.to
		} else if s.to-begin > hours {
			from, hours = begin, s.to-begin
		}
	}
	if hours == 0 {
		return 0, 0, api.ErrNone
	}
	return from, hours, api.OK
}

// Thinned returns the readings without those that have the temperature of the one before.
func Thinned(l []api.Reading) ([]api.Reading, api.Errno) {
	if !ValidReadings(l) {
		return nil, api.ErrInvalid
	}
	var thin []api.Reading
	for i, r := range l {
		if i == 0 || l[i-1].Temp != r.Temp {
			thin = append(thin, r)
		}
	}
	return thin, api.OK
}

// Shifted returns the readings so many hours later.
func Shifted(l []api.Reading, by int) ([]api.Reading, api.Errno) {
	if !ValidReadings(l) {
		return nil, api.ErrInvalid
	}
	// The hours ascend, so the first and the last one tell of all; nothing is added before, as the sum may not fit.
	if by < -l[0].Hour || by > api.MaxHour-l[len(l)-1].Hour {
		return nil, api.ErrLimit
	}
	var shifted []api.Reading
	for _, r := range l {
		shifted = append(shifted, api.Reading{Hour: r.Hour + by, Temp: r.Temp})
	}
	return shifted, api.OK
}

// check looks at readings, their end and temperatures that are asked for.
func check(l []api.Reading, end int, temps ...int) api.Errno {
	if !ValidReadings(l) {
		return api.ErrInvalid
	}
	if !within(l[len(l)-1].Hour, api.MaxHour, end) || !within(-maxTemp, maxTemp, temps...) {
		return api.ErrRange
	}
	return api.OK
}

// stretch is the hours from one to that before another one.
type stretch struct{ from, to int }

// stretches goes through the hours of each reading, with its temperature; the last one may have none.
func stretches(l []api.Reading, end int) iter.Seq2[stretch, int] {
	return func(yield func(stretch, int) bool) {
		for i, r := range l {
			to := end
			if i+1 < len(l) {
				to = l[i+1].Hour
			}
			if !yield(stretch{r.Hour, to}, r.Temp) {
				return
			}
		}
	}
}
