package pest

import (
	"iter"
	"math/bits"
	"slices"

	"armature/api"
)

// Spread returns the rooms with pests on a day.
func Spread(h api.House, sealed []int, day int) (int, api.Errno) {
	if e := checked(h, areDoors(h, sealed), isAscending(sealed) && within(0, maxDay, day)); e != api.OK {
		return 0, e
	}
	return on(day, open(h, sealed), h.Infested), api.OK
}

// Comes returns the rooms to which pests come.
func Comes(h api.House, sealed []int) (int, api.Errno) {
	if e := checked(h, areDoors(h, sealed), isAscending(sealed)); e != api.OK {
		return 0, e
	}
	return reached(open(h, sealed), h.Infested), api.OK
}

// Day returns the first day on which pests are in a room.
func Day(h api.House, sealed []int, room int) (int, api.Errno) {
	if e := checked(h, areDoors(h, sealed) && isRoom(h, room), isAscending(sealed)); e != api.OK {
		return 0, e
	}
	for day, rooms := range days(open(h, sealed), h.Infested) {
		if has(rooms, room) {
			return day, api.OK
		}
	}
	return 0, api.ErrNone
}

// Cuts reports whether doors, sealed, keep pests out of all kept rooms.
func Cuts(h api.House, doors []int) (bool, api.Errno) {
	rooms, e := Comes(h, doors)
	return e == api.OK && rooms&h.Kept == 0, e
}

// Parts returns for each room the least one of the rooms that open doors join.
func Parts(h api.House, sealed []int) ([]int, api.Errno) {
	if e := checked(h, areDoors(h, sealed), isAscending(sealed)); e != api.OK {
		return nil, e
	}
	var least []int
	for room := range h.Rooms {
		least = append(least, bits.TrailingZeros(uint(reached(open(h, sealed), 1<<room))))
	}
	return least, api.OK
}

// Fits reports whether traps found what they would find if pests were in some rooms at first.
func Fits(h api.House, l []api.Trap, begin int) (bool, api.Errno) {
	if e := checked(h, true, areTraps(h, l) && isSet(h, begin)); e != api.OK {
		return false, e
	}
	return fits(h, l, begin), api.OK
}

// Begins returns the rooms that can be the only one with pests at first.
func Begins(h api.House, l []api.Trap) ([]int, api.Errno) {
	if e := checked(h, true, areTraps(h, l)); e != api.OK {
		return nil, e
	}
	var begins []int
	for room := range h.Rooms {
		if fits(h, l, 1<<room) {
			begins = append(begins, room)
		}
	}
	return begins, api.OK
}

func areTraps(h api.House, l []api.Trap) bool {
	return len(l) <= maxTraps && !slices.ContainsFunc(l, func(t api.Trap) bool {
		return !isRoom(h, t.Room) || !within(0, maxDay, t.Day)
	})
}

func fits(h api.House, l []api.Trap, begin int) bool {
	return !slices.ContainsFunc(l, func(t api.Trap) bool {
		return has(on(t.Day, h.Doors, begin), t.Room) != t.Found
	})
}

// open returns the doors of a house that are not sealed.
func open(h api.House, sealed []int) []api.Door {
	var l []api.Door
	for i, d := range h.Doors {
		if !slices.Contains(sealed, i) {
			l = append(l, d)
		}
	}
	return l
}

// days ranges over the days with the rooms that are reached on each, until no more rooms are reached.
func days(doors []api.Door, begin int) iter.Seq2[int, int] {
	return func(yield func(day, rooms int) bool) {
		rooms, more := begin, next(doors, begin)
		for day := 0; yield(day, rooms) && more != rooms; day++ {
			rooms, more = more, next(doors, more)
		}
	}
}

// on returns the rooms that are reached on a day.
func on(day int, doors []api.Door, begin int) int {
	there := begin
	for d, rooms := range days(doors, begin) {
		if d > day {
			break
		}
		there = rooms
	}
	return there
}

// reached returns the rooms that are reached on some day; each day but the last one brings a new room.
func reached(doors []api.Door, begin int) int { return on(api.MaxRooms, doors, begin) }

// next returns some rooms and those beside them.
func next(doors []api.Door, rooms int) int {
	all := rooms
	for _, d := range doors {
		if has(rooms, d.A) || has(rooms, d.B) {
			all |= 1<<d.A | 1<<d.B
		}
	}
	return all
}
