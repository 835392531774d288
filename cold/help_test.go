package cold_test

import (
	"math"
	"slices"

	"armature/api"
)

const (
	lastHour = api.MaxHour
	maxTemp  = 1000
)

// readings makes readings of hours and temperatures in turn.
func readings(l ...int) []api.Reading {
	var out []api.Reading
	for i := 0; i+1 < len(l); i += 2 {
		out = append(out, api.Reading{Hour: l[i], Temp: l[i+1]})
	}
	return out
}

// nights are the readings of the chapter's examples, with the end 100.
func nights() []api.Reading { return readings(0, 200, 5, -300, 60, 200) }

// frost is the rule of the chapter's examples, with a second chill behind a thaw.
func frost() api.Freeze {
	return api.Freeze{Temp: -180, Hours: 20, Times: 2, Thaw: 10, Warm: 150}
}

// full are as many readings as there may be, from the first hour to the last one.
func full() []api.Reading {
	var l []api.Reading
	for i := range 200 {
		l = append(l, api.Reading{Hour: i * 5025, Temp: i%3 - 1})
	}
	l[199].Hour = lastHour
	return l
}

func box(from, to, size int) api.Box { return api.Box{From: from, To: to, Size: size} }

// shelf is the boxes of the chapter's examples, with sizes.
func shelf() []api.Box { return []api.Box{box(0, 10, 3), box(5, 15, 4), box(10, 20, 5)} }

// crowd is as many boxes as there may be, all of them always there.
func crowd() []api.Box { return slices.Repeat([]api.Box{box(0, lastHour, 100)}, api.MaxBoxes) }

// dice throws numbers that are the same in every run.
type dice uint64

func (d *dice) throw(n int) int {
	*d = *d*6364136223846793005 + 1442695040888963407
	return int(uint64(*d) >> 33 % uint64(n))
}

// between throws a number from the least to the most.
func (d *dice) between(least, most int) int { return least + d.throw(most-least+1) }

// readings throws readings of few temperatures, and an end.
func (d *dice) readings() ([]api.Reading, int) {
	hour := d.throw(4)
	var l []api.Reading
	for range d.between(1, 12) {
		l = append(l, api.Reading{Hour: hour, Temp: d.between(-2, 2)})
		hour += d.between(1, 6)
	}
	last := l[len(l)-1].Hour
	return l, last + d.throw(8)
}

// rule throws a rule that fits such readings.
func (d *dice) rule() api.Freeze {
	temp := d.between(-2, 1)
	return api.Freeze{Temp: temp, Hours: d.between(1, 6), Times: d.between(1, 4), Thaw: d.throw(4), Warm: d.between(temp, 1)}
}

// boxes throws at most so many boxes within so many hours.
func (d *dice) boxes(count, hours, size int) []api.Box {
	var b []api.Box
	for range d.throw(count + 1) {
		from := d.throw(hours)
		b = append(b, box(from, d.between(from+1, hours), d.between(1, size)))
	}
	return b
}

// hourly writes out the temperatures of readings hour by hour.
func hourly(l []api.Reading, end int) []int {
	var temps []int
	for hour, i := l[0].Hour, 0; hour < end; hour++ {
		for i+1 < len(l) && l[i+1].Hour <= hour {
			i++
		}
		temps = append(temps, l[i].Temp)
	}
	return temps
}

// loads writes out the load of boxes hour by hour.
func loads(b []api.Box, hours int) []int {
	sums := make([]int, hours)
	for _, x := range b {
		for hour := x.From; hour < x.To; hour++ {
			sums[hour] += x.Size
		}
	}
	return sums
}

// alike makes all boxes of the size 1, so that their load is their number.
func alike(b []api.Box) []api.Box {
	b = slices.Clone(b)
	for i := range b {
		b[i].Size = 1
	}
	return b
}

func wrongReadings() [][]api.Reading {
	l := [][]api.Reading{
		nil, {}, readings(5, 1, 5, 1), readings(5, 1, 4, 1), readings(0, 1, 7, 1, 7, 2), readings(0, 1, 8, 1, 7, 2, 9, 3), readings(9, 1, 0, 1, 10, 1),
		make([]api.Reading, 2), make([]api.Reading, 5000), readings(math.MaxInt, 1, math.MinInt, 1),
	}
	for _, n := range []int{math.MinInt, -1, lastHour + 1, math.MaxInt} {
		l = append(l, readings(n, 0), readings(n, 0, lastHour, 0), readings(0, 0, n, 0))
	}
	for _, n := range []int{math.MinInt, -1001, 1001, math.MaxInt} {
		l = append(l, readings(0, n), readings(0, 5, 9, n), readings(0, n, 9, 5), readings(0, 5, 4, n, 9, 5))
	}
	var many []api.Reading
	for i := range 201 {
		many = append(many, api.Reading{Hour: i})
	}
	return append(l, many)
}

func wrongRules() []api.Freeze {
	var l []api.Freeze
	add := func(change func(f *api.Freeze, n int), numbers ...int) {
		for _, n := range numbers {
			f := frost()
			change(&f, n)
			l = append(l, f)
		}
	}
	add(func(f *api.Freeze, n int) { f.Temp = n }, math.MinInt, -1001, 151, 1000, 1001, math.MaxInt)
	add(func(f *api.Freeze, n int) { f.Warm = n }, math.MinInt, -1001, -181, 1001, math.MaxInt)
	add(func(f *api.Freeze, n int) { f.Temp, f.Warm = n, n }, math.MinInt, -1001, 1001, math.MaxInt)
	add(func(f *api.Freeze, n int) { f.Hours = n }, math.MinInt, -1, 0, 10001, math.MaxInt)
	add(func(f *api.Freeze, n int) { f.Times = n }, math.MinInt, -1, 0, 6, math.MaxInt)
	add(func(f *api.Freeze, n int) { f.Thaw = n }, math.MinInt, -1, 10001, math.MaxInt)
	return append(l, api.Freeze{})
}

func wrongBoxes() [][]api.Box {
	one := []api.Box{
		{}, box(0, 0, 1), box(5, 5, 1), box(6, 5, 1), box(-1, 5, 1), box(math.MinInt, 5, 1), box(0, lastHour+1, 1), box(lastHour, lastHour+1, 1), box(lastHour, lastHour, 1),
		box(0, math.MaxInt, 1), box(math.MaxInt, math.MinInt, 1), box(math.MinInt, math.MaxInt, 1), box(-5, -3, 1), box(0, 5, 0), box(0, 5, -1), box(0, 5, 101), box(0, 5, math.MinInt), box(0, 5, math.MaxInt),
	}
	b := [][]api.Box{append(crowd(), box(0, 1, 1)), slices.Repeat(shelf(), 2000)}
	for _, x := range one {
		b = append(b, []api.Box{x}, []api.Box{box(0, 5, 1), x}, []api.Box{x, box(0, 5, 1)})
	}
	return b
}
