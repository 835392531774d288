package cold

import (
	"iter"
	"slices"

	"armature/api"
)

// Load returns the load at an hour.
func Load(b []api.Box, hour int) (int, api.Errno) {
	if !ValidBoxes(b) {
		return 0, api.ErrInvalid
	}
	if !within(0, api.MaxHour, hour) {
		return 0, api.ErrRange
	}
	return sum(b, hour, room), api.OK
}

// Peak returns the first hour with the greatest load, and this load.
func Peak(b []api.Box) (hour, load int, e api.Errno) { return greatest(b, room) }

// Fit reports whether the load is never above some places.
func Fit(b []api.Box, places int) bool {
	_, e := Over(b, places)
	return e == api.ErrNone
}

// Over returns the first hour with a load above some places.
func Over(b []api.Box, places int) (int, api.Errno) {
	if !ValidBoxes(b) {
		return 0, api.ErrInvalid
	}
	if !within(0, maxPlaces, places) {
		return 0, api.ErrRange
	}
	return over(b, places)
}

// Earliest returns the least hour, from one on, at which a box of a size can be put in for some hours.
func Earliest(b []api.Box, places, from, hours, size int) (int, api.Errno) {
	if !ValidBoxes(b) {
		return 0, api.ErrInvalid
	}
	if !within(0, maxPlaces, places) || !within(0, api.MaxHour, from) || !within(1, maxHours, hours) || !within(1, maxSize, size) {
		return 0, api.ErrRange
	}
	last := api.MaxHour - hours
	if from > last {
		return 0, api.ErrNone
	}
	if _, e := over(b, places); e == api.OK {
		return 0, api.ErrState
	}
	for _, hour := range openings(b, from) {
		if hour > last {
			break
		}
		more := slices.Concat(b, []api.Box{{From: hour, To: hour + hours, Size: size}})
		if _, e := over(more, places); e == api.ErrNone {
			return hour, api.OK
		}
	}
	return 0, api.ErrNone
}

func room(x api.Box) int { return x.Size }

// sum adds up what is asked of the boxes that are there at an hour.
func sum(b []api.Box, hour int, asked func(x api.Box) int) int {
	n := 0
	for _, x := range b {
		if x.From <= hour && hour < x.To {
			n += asked(x)
		}
	}
	return n
}

// arrivals goes through the hours at which boxes come, in ascending order, with the sum of each: no sum rises at another hour.
func arrivals(b []api.Box, asked func(x api.Box) int) iter.Seq2[int, int] {
	return func(yield func(int, int) bool) {
		var hours []int
		for _, x := range b {
			hours = append(hours, x.From)
		}
		slices.Sort(hours)
		for _, hour := range hours {
			if !yield(hour, sum(b, hour, asked)) {
				return
			}
		}
	}
}

// greatest returns the first hour with the greatest sum, and this sum.
func greatest(b []api.Box, asked func(x api.Box) int) (hour, most int, e api.Errno) {
	if !ValidBoxes(b) {
		return 0, 0, api.ErrInvalid
	}
	if len(b) == 0 {
		return 0, 0, api.ErrNone
	}
	for h, n := range arrivals(b, asked) {
		if n > most {
			hour, most = h, n
		}
	}
	return hour, most, api.OK
}

func over(b []api.Box, places int) (int, api.Errno) {
	for hour, load := range arrivals(b, room) {
		if load > places {
			return hour, api.OK
		}
	}
	return 0, api.ErrNone
}

// openings returns, in ascending order, the hours at which a new box can find a place that it had not an hour before: that from which on it is asked for, and those at which others go.
func openings(b []api.Box, from int) []int {
	hours := []int{from}
	for _, x := range b {
		if x.To > from {
			hours = append(hours, x.To)
		}
	}
	slices.Sort(hours)
	return hours
}
