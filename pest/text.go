package pest

import (
	"strconv"
	"strings"

	"armature/api"
)

// reader is how a line goes on after its first word: with how many numbers, and what these add to a house.
type reader struct {
	numbers int
	read    func(h api.House, n []int) api.House
}

// readers returns the readers of lines by their first words.
func readers() map[string]reader {
	return map[string]reader{
		"house": {3, func(_ api.House, n []int) api.House {
			return api.House{Rooms: n[0], Infested: n[1], Kept: n[2]}
		}},
		"door": {3, func(h api.House, n []int) api.House {
			h.Doors = append(h.Doors, api.Door{A: n[0], B: n[1], Cost: n[2]})
			return h
		}},
	}
}

// Format returns a line with the numbers of a house, and one for each door.
func Format(h api.House) string {
	if !Valid(h) {
		return ""
	}
	var text strings.Builder
	text.WriteString(formatLine("house", h.Rooms, h.Infested, h.Kept))
	for _, d := range h.Doors {
		text.WriteString(formatLine("door", d.A, d.B, d.Cost))
	}
	return text.String()
}

// Parse reads what Format writes.
func Parse(s string) (h api.House, line int, e api.Errno) {
	if len(s) > api.MaxText {
		return api.House{}, 0, api.ErrLong
	}
	read := 0
	for text := range strings.Lines(s) {
		read += len(text)
		h = withLine(h, text)
		// A wrong spelling, or a line in a wrong place, is not written again as it was read.
		if Format(h) != s[:read] {
			return api.House{}, line, api.ErrSyntax
		}
		line++
	}
	if line == 0 {
		return api.House{}, 0, api.ErrSyntax
	}
	return h, 0, api.OK
}

// withLine returns a house with what a line adds to it, or the zero house if it is none of the lines.
func withLine(h api.House, text string) api.House {
	words := strings.Fields(text)
	if len(words) == 0 {
		return api.House{}
	}
	line, known := readers()[words[0]]
	if !known || len(words) != 1+line.numbers {
		return api.House{}
	}
	var numbers []int
	for _, word := range words[1:] {
		n, _ := strconv.Atoi(word)
		numbers = append(numbers, n)
	}
	return line.read(h, numbers)
}

func formatLine(word string, numbers ...int) string {
	for _, n := range numbers {
		word += " " + strconv.Itoa(n)
	}
	return word + "\n"
}
