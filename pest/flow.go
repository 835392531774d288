package pest

import (
	"slices"

	"armature/api"
)

// amounts is what goes through each door of a house, from A to B.
type amounts [api.MaxDoors]int

// Flow reports whether amounts are a flow.
func Flow(h api.House, l []int) (bool, api.Errno) {
	if e := checked(h, true, areAmounts(h, l)); e != api.OK {
		return false, e
	}
	return isFlow(h, amountsOf(l)), api.OK
}

// Value returns how much of a flow leaves the infested rooms.
func Value(h api.House, l []int) (int, api.Errno) {
	if e := checked(h, true, areAmounts(h, l)); e != api.OK {
		return 0, e
	}
	flow := amountsOf(l)
	if !isFlow(h, flow) {
		return 0, api.ErrState
	}
	return value(h, flow), api.OK
}

// Cheapest returns a cut of the least cost, with a flow that proves it.
func Cheapest(h api.House) (api.Cut, api.Errno) {
	if !Valid(h) {
		return api.Cut{}, api.ErrInvalid
	}
	flow, near := greatest(h)
	// Of the doors around the near rooms only those that lead on to a kept room must be sealed; the others cost nothing.
	far := reached(open(h, across(h, near)), h.Kept)
	return api.Cut{Doors: across(h, far), Amount: slices.Clone(flow[:len(h.Doors)])}, api.OK
}

// Proves reports whether doors are a cut, and amounts a flow of the value that is its cost.
func Proves(h api.House, c api.Cut) bool {
	cuts, _ := Cuts(h, c.Doors)
	cost, _ := Cost(h, c.Doors)
	n, e := Value(h, c.Amount)
	return cuts && e == api.OK && n == cost
}

// Least returns the least cost of a cut.
func Least(h api.House) (int, api.Errno) {
	if !Valid(h) {
		return 0, api.ErrInvalid
	}
	return least(h), api.OK
}

// Fewest returns the least number of doors of a cut.
func Fewest(h api.House) (int, api.Errno) {
	if !Valid(h) {
		return 0, api.ErrInvalid
	}
	h.Doors = slices.Clone(h.Doors)
	for i := range h.Doors {
		h.Doors[i].Cost = 1
	}
	return least(h), api.OK
}

// Needed returns the doors without which a cut would cost less.
func Needed(h api.House) ([]int, api.Errno) {
	if !Valid(h) {
		return nil, api.ErrInvalid
	}
	var doors []int
	cost := least(h)
	for i := range h.Doors {
		if least(without(h, i)) < cost {
			doors = append(doors, i)
		}
	}
	return doors, api.OK
}

func areAmounts(h api.House, l []int) bool {
	return len(l) == len(h.Doors) && within(-maxCost, maxCost, l...)
}

// amountsOf returns amounts as an array; there are not more than doors.
func amountsOf(l []int) amounts {
	var flow amounts
	copy(flow[:], l)
	return flow
}

func isFlow(h api.House, flow amounts) bool {
	for i, d := range h.Doors {
		if !within(-d.Cost, d.Cost, flow[i]) {
			return false
		}
	}
	for room, n := range leaving(h, flow) {
		if n != 0 && !has(h.Infested|h.Kept, room) {
			return false
		}
	}
	return true
}

func value(h api.House, flow amounts) int {
	sum := 0
	for room, n := range leaving(h, flow) {
		if has(h.Infested, room) {
			sum += n
		}
	}
	return sum
}

// leaving returns for each room what goes out of it, less what comes in.
func leaving(h api.House, flow amounts) [api.MaxRooms]int {
	var out [api.MaxRooms]int
	for i, d := range h.Doors {
		out[d.A] += flow[i]
		out[d.B] -= flow[i]
	}
	return out
}

// across returns the doors between some rooms and the others.
func across(h api.House, rooms int) []int {
	var l []int
	for i, d := range h.Doors {
		if has(rooms, d.A) != has(rooms, d.B) {
			l = append(l, i)
		}
	}
	return l
}

// least returns the least cost of a cut, which is the greatest value of a flow.
func least(h api.House) int {
	flow, _ := greatest(h)
	return value(h, flow)
}

// greatest returns a flow of the greatest value, and the rooms to which more could go, which are no kept ones.
func greatest(h api.House) (flow amounts, near int) {
	// Ways for much come first: there may be as many ways for 1 as the costs are high.
	for much := maxCost; much > 0; much /= 2 {
		for found := true; found; {
			near, found = grow(h, &flow, much)
		}
	}
	return flow, near
}

// grow lets so much more flow from an infested room to a kept one, if there is a way for it; else it returns the rooms to which so much more could go.
func grow(h api.House, flow *amounts, much int) (tried int, found bool) {
	var leads func(room int) bool
	leads = func(room int) bool {
		if has(h.Kept, room) {
			return true
		}
		tried |= 1 << room
		for i, d := range h.Doors {
			to, sign := beyond(d, room)
			if has(tried, to) || d.Cost-sign*flow[i] < much {
				continue
			}
			if leads(to) {
				flow[i] += sign * much
				return true
			}
		}
		return false
	}
	for room := range h.Rooms {
		if has(h.Infested, room) && !has(tried, room) && leads(room) {
			return 0, true
		}
	}
	return tried, false
}

// beyond returns where a door leads from a room, and the sign of what goes there; a door that is not in the room leads nowhere else.
func beyond(d api.Door, room int) (to, sign int) {
	switch room {
	case d.A:
		return d.B, 1
	case d.B:
		return d.A, -1
	}
	return room, 0
}
