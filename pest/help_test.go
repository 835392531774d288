package pest_test

import (
	"maps"
	"math"
	"slices"

	"armature/api"
)

const (
	maxCost  = 1000
	maxDay   = 100
	maxTraps = 100
	never    = 1000 // a day on which nothing comes any more
)

// house is a house with a copy of some doors.
func house(rooms, infested, kept int, doors ...api.Door) api.House {
	return api.House{Rooms: rooms, Doors: slices.Clone(doors), Infested: infested, Kept: kept}
}

func door(a, b, cost int) api.Door { return api.Door{A: a, B: b, Cost: cost} }

// three is the example of the chapter.
func three() api.House { return house(3, 1, 4, door(0, 1, 3), door(1, 2, 2), door(0, 2, 1)) }

// row is a house with each room joined to the next one, pests in the first room, and the last one kept.
func row(rooms, cost int) api.House {
	h := house(rooms, 1, 1<<(rooms-1))
	for i := range rooms - 1 {
		h.Doors = append(h.Doors, door(i, i+1, cost))
	}
	return h
}

// full is a house with as many rooms and doors as there can be.
func full(cost int) api.House {
	h := house(api.MaxRooms, 1, 1<<11)
	for a := range api.MaxRooms {
		for b := a + 1; b < min(a+5, api.MaxRooms) && len(h.Doors) < api.MaxDoors; b++ {
			h.Doors = append(h.Doors, door(a, b, cost))
		}
	}
	for len(h.Doors) < api.MaxDoors {
		h.Doors = append(h.Doors, door(0, 11, cost))
	}
	return h
}

func trap(room, day int, found bool) api.Trap { return api.Trap{Room: room, Day: day, Found: found} }

// touches makes touches of pairs of numbers, who and what.
func touches(numbers ...int) []api.Touch {
	var l []api.Touch
	for pair := range slices.Chunk(numbers, 2) {
		l = append(l, api.Touch{Who: pair[0], What: pair[1]})
	}
	return l
}

func sameHouse(a, b api.House) bool {
	return a.Rooms == b.Rooms && a.Infested == b.Infested && a.Kept == b.Kept && slices.Equal(a.Doors, b.Doors)
}

func isZero(h api.House) bool { return sameHouse(h, api.House{}) }

// dice throws numbers that are the same in every run.
type dice uint64

func (d *dice) throw(n int) int {
	*d = *d*6364136223846793005 + 1442695040888963407
	return int(uint64(*d) >> 33 % uint64(n))
}

// house throws a house with so many rooms and doors at most, often a cheap one, with few infested and few kept rooms.
func (d *dice) house(rooms, doors int) api.House {
	h := house(2+d.throw(rooms-1), 0, 0)
	most := [5]int{1, 2, 3, 10, maxCost}[d.throw(5)]
	for range d.throw(doors + 1) {
		a, b := d.throw(h.Rooms), d.throw(h.Rooms-1)
		if b >= a {
			b++
		}
		h.Doors = append(h.Doors, door(min(a, b), max(a, b), d.throw(most+1)))
	}
	rare := 2 + d.throw(h.Rooms)
	for room := range h.Rooms {
		switch d.throw(rare) {
		case 0:
			h.Infested |= 1 << room
		case 1:
			h.Kept |= 1 << room
		}
	}
	return h
}

// some throws some of the numbers below one, in ascending order.
func (d *dice) some(below int) []int {
	var l []int
	often := 1 + d.throw(4)
	for i := range below {
		if d.throw(4) < often {
			l = append(l, i)
		}
	}
	return l
}

// touches throws touches among so many people and things, which often lead on from one to another, and which of these things have poison at first, mostly a single one.
func (d *dice) touches(most, holders int) ([]api.Touch, uint64) {
	people, things := 1+d.throw(holders), 1+d.throw(holders)
	var l []api.Touch
	last := api.Touch{Who: d.throw(people), What: d.throw(things)}
	poison := uint64(1) << last.What
	for d.throw(4) == 0 {
		poison ^= 1 << d.throw(things)
	}
	for i := range d.throw(most + 1) {
		l = append(l, last)
		change := d.throw(6)
		if i%2 == 1 || change == 0 {
			last.Who = d.throw(people)
		}
		if i%2 == 0 || change == 1 {
			last.What = d.throw(things)
		}
	}
	return l, poison
}

// traps throws traps that mostly tell the truth of some beginning.
func (d *dice) traps(h api.House) []api.Trap {
	begin := d.throw(1 << h.Rooms)
	if d.throw(3) > 0 {
		begin = 1 << d.throw(h.Rooms)
	}
	far := daysOf(h, nil, begin)
	var l []api.Trap
	for range d.throw(8) {
		t := trap(d.throw(h.Rooms), d.throw(5), false)
		t.Found = far[t.Room] <= t.Day != (d.throw(20) == 0)
		l = append(l, t)
	}
	return l
}

// houses checks so many thrown houses.
func houses(seed dice, n, rooms, doors int, check func(d *dice, h api.House)) {
	for range n {
		check(&seed, seed.house(rooms, doors))
	}
}

// daysOf says anew on which day each room has pests for the first time, by the lengths of ways through two ways.
func daysOf(h api.House, sealed []int, begin int) []int {
	var far [api.MaxRooms][api.MaxRooms]int
	for a := range far {
		for b := range far {
			if far[a][b] = never; a == b {
				far[a][b] = 0
			}
		}
	}
	for i, d := range h.Doors {
		if !slices.Contains(sealed, i) {
			far[d.A][d.B], far[d.B][d.A] = 1, 1
		}
	}
	for by := range far {
		for a := range far {
			for b := range far {
				far[a][b] = min(far[a][b], far[a][by]+far[by][b])
			}
		}
	}
	days := slices.Repeat([]int{never}, h.Rooms)
	for a := range h.Rooms {
		for b := range h.Rooms {
			if begin>>a&1 == 1 {
				days[b] = min(days[b], far[a][b])
			}
		}
	}
	return days
}

// roomsOn says anew which rooms have pests on a day.
func roomsOn(h api.House, sealed []int, begin, day int) int {
	rooms := 0
	for room, first := range daysOf(h, sealed, begin) {
		if first <= day {
			rooms |= 1 << room
		}
	}
	return rooms
}

func isCut(h api.House, doors []int) bool {
	return roomsOn(h, doors, h.Infested, maxDay)&h.Kept == 0
}

func costOf(h api.House, doors []int) int {
	sum := 0
	for _, i := range doors {
		sum += h.Doors[i].Cost
	}
	return sum
}

// leastOf says anew what a cut costs at least: pests can be in one set of rooms, with all doors to the others sealed.
func leastOf(h api.House) int {
	least := math.MaxInt
	for rooms := range 1 << h.Rooms {
		if rooms&h.Infested != h.Infested || rooms&h.Kept != 0 {
			continue
		}
		sum := 0
		for _, d := range h.Doors {
			if rooms>>d.A&1 != rooms>>d.B&1 {
				sum += d.Cost
			}
		}
		least = min(least, sum)
	}
	return least
}

// each is a house in which each door costs 1.
func each(h api.House) api.House {
	h.Doors = slices.Clone(h.Doors)
	for i := range h.Doors {
		h.Doors[i].Cost = 1
	}
	return h
}

// flowOf says anew whether amounts, as many as doors, are a flow, and of which value: it lets each amount through its door on its own.
func flowOf(h api.House, amounts []int) (value int, ok bool) {
	gone := map[int]int{}
	for i, n := range amounts {
		d := h.Doors[i]
		if n > d.Cost || -n > d.Cost {
			return 0, false
		}
		gone[d.A] += n
		gone[d.B] -= n
	}
	for room, n := range gone {
		in, out := h.Infested>>room&1 == 1, h.Kept>>room&1 == 1
		if in {
			value += n
		} else if !out && n != 0 {
			return 0, false
		}
	}
	return value, true
}

// subsets ranges over all lists of ascending numbers below one.
func subsets(below int) func(yield func(l []int) bool) {
	return func(yield func(l []int) bool) {
		for bits := range 1 << below {
			var l []int
			for i := range below {
				if bits>>i&1 == 1 {
					l = append(l, i)
				}
			}
			if !yield(l) {
				return
			}
		}
	}
}

// taintedOf says anew who and what has poison after touches, told in turn.
func taintedOf(l []api.Touch, things uint64) (people, all map[int]bool) {
	people, all = map[int]bool{}, map[int]bool{}
	for thing := range 64 {
		if things&(1<<thing) != 0 {
			all[thing] = true
		}
	}
	for _, t := range l {
		was := maps.Clone(people)
		if all[t.What] {
			people[t.Who] = true
		}
		if was[t.Who] {
			all[t.What] = true
		}
	}
	return people, all
}

func bits(set map[int]bool) uint64 {
	var n uint64
	for i := range set {
		n |= 1 << i
	}
	return n
}

// causeOf says anew the fewest touches that bring poison to a thing, of all of them the first; nothing and false if none do.
func causeOf(l []api.Touch, things uint64, thing int) ([]int, bool) {
	var best []int
	found := false
	for chosen := range subsets(len(l)) {
		if _, all := taintedOf(picked(l, chosen), things); !all[thing] {
			continue
		}
		if !found || len(chosen) < len(best) || len(chosen) == len(best) && slices.Compare(chosen, best) < 0 {
			best, found = chosen, true
		}
	}
	return best, found
}

func picked(l []api.Touch, chosen []int) []api.Touch {
	var p []api.Touch
	for _, i := range chosen {
		p = append(p, l[i])
	}
	return p
}

// causeBack says the same of many touches, by how many more it takes from each touch on, told from the last one.
func causeBack(l []api.Touch, things uint64, thing int) ([]int, bool) {
	const far = 1000
	// more[i][who or 64 + what] is how many of the touches from i on bring poison from there to the thing.
	more := make([][128]int, len(l)+1)
	for holder := range 128 {
		more[len(l)][holder] = far
	}
	more[len(l)][64+thing] = 0
	for i := len(l) - 1; i >= 0; i-- {
		more[i] = more[i+1]
		who, what := l[i].Who, 64+l[i].What
		more[i][who] = min(more[i+1][who], 1+more[i+1][what])
		more[i][what] = min(more[i+1][what], 1+more[i+1][who])
	}
	least := far
	for start := range 64 {
		if things>>start&1 == 1 {
			least = min(least, more[0][64+start])
		}
	}
	if least == far {
		return nil, false
	}
	tainted := map[int]bool{}
	for start := range 64 {
		tainted[64+start] = things>>start&1 == 1
	}
	var chosen []int
	for i, t := range l {
		left := least - len(chosen)
		for _, way := range [][2]int{{64 + t.What, t.Who}, {t.Who, 64 + t.What}} {
			if left > 0 && tainted[way[0]] && more[i+1][way[1]] == left-1 {
				chosen = append(chosen, i)
				tainted = map[int]bool{way[1]: true}
				break
			}
		}
	}
	return chosen, true
}

// wrongHouses are no valid houses.
func wrongHouses() []api.House {
	l := []api.House{{}, house(0, 0, 0), house(13, 0, 0), house(-1, 0, 0), house(2, 1, 1), house(2, 4, 0), house(2, 0, 4), house(2, -1, 0), house(2, 0, -1), house(3, 3, 6), house(12, 4095, 4095), house(12, 4096, 0), house(12, 0, 4096), house(12, 1<<32, 0), house(12, 0, 1<<32+1), house(1, 2, 0), house(1, 0, 2), house(1, 1, 1),
		house(1, 0, 0, door(0, 0, 1)), house(1, 0, 0, door(0, 1, 1)), house(2, 0, 0, door(1, 1, 1)), house(2, 0, 0, door(1, 0, 1)), house(2, 0, 0, door(0, 2, 1)), house(2, 0, 0, door(2, 3, 1)), house(2, 0, 0, door(-1, 1, 1)), house(2, 0, 0, door(-1, 0, 1)), house(2, 0, 0, door(0, 1, -1)), house(2, 0, 0, door(0, 1, maxCost+1)), house(2, 0, 0, door(0, 1, 5), door(1, 1, 5)), house(2, 0, 0, door(0, 0, 5), door(0, 1, 5)), house(3, 1, 4, door(0, 1, 3), door(1, 2, 2), door(0, 3, 1)), house(2, 1, 2, door(-2, -1, 3))}
	for _, n := range farNumbers() {
		l = append(l, house(n, 0, 0), house(3, n, 0), house(3, 0, n), house(3, 0, 0, door(n, 1, 0)), house(3, 0, 0, door(0, n, 0)), house(3, 0, 0, door(n, n, 0)), house(3, 0, 0, door(0, 1, n)), house(n, n, n, door(n, n, n)), house(n, 0, 0, door(0, 1, 1)))
	}
	return append(l, house(2, 0, 0, slices.Repeat([]api.Door{door(0, 1, 1)}, 41)...), house(2, 1, 2, make([]api.Door, 1<<16)...), house(2, 0, 0, slices.Repeat([]api.Door{door(0, 1, 1)}, 1<<12)...))
}

func farNumbers() []int {
	return []int{math.MinInt, math.MinInt + 1, math.MinInt32, -maxCost - 1, maxCost + 5000, 1 << 31, 1 << 32, 1<<32 + 1, math.MaxInt - 1, math.MaxInt}
}

// wrongUpTo are numbers that are not from 0 to most, the first ones just not.
func wrongUpTo(most int) []int {
	return append([]int{-1, most + 1, -2, most + 2}, math.MinInt, math.MinInt+1, math.MinInt32, 1<<32, math.MaxInt-1, math.MaxInt)
}

// unknown are lists with a number below 0 or above the last one, in whatever order.
func unknown(last int) [][]int {
	var l [][]int
	for _, n := range wrongUpTo(last) {
		l = append(l, []int{n}, []int{0, n}, []int{n, 0}, []int{n, n}, []int{0, 0, n}, []int{0, 1, n, 1})
	}
	return l
}

// unsorted are lists of the numbers 0, 1 and 2 that are not strictly ascending.
func unsorted() [][]int {
	return [][]int{{0, 0}, {1, 0}, {2, 2}, {0, 1, 1}, {0, 2, 1}, {1, 0, 2}, {0, 1, 2, 0}, {0, 1, 2, 2}, {0, 0, 1, 2}, make([]int, 41), make([]int, 1<<12)}
}
