package scene

import (
	"strconv"
	"strings"

	"armature/api"
)

// Format returns a line with the sides of a ground, and one for each row with its heights.
func Format(g api.Ground) string {
	if !Valid(g) {
		return ""
	}
	var text strings.Builder
	text.WriteString(formatSides(g))
	for y := range g.Deep {
		text.WriteString(formatRow(g.Height[cellAt(g, 0, y):cellAt(g, 0, y+1)]))
	}
	return text.String()
}

// Parse reads what Format writes.
func Parse(s string) (g api.Ground, line int, e api.Errno) {
	if len(s) > api.MaxText {
		return api.Ground{}, 0, api.ErrLong
	}
	for text := range strings.Lines(s) {
		if !parseLine(&g, line, text) {
			return api.Ground{}, line, api.ErrSyntax
		}
		line++
	}
	if line != 1+g.Deep {
		return api.Ground{}, line, api.ErrSyntax
	}
	return g, 0, api.OK
}

// parseLine reads the line of a number into a ground, which has what the lines before it tell.
func parseLine(g *api.Ground, line int, text string) bool {
	if line == 0 {
		sides, ok := parseSides(text)
		*g = sides
		return ok
	}
	row, ok := parseRow(text)
	g.Height = append(g.Height, row...)
	return ok && len(row) == g.Wide && line <= g.Deep
}

func formatSides(g api.Ground) string {
	return "ground " + strconv.Itoa(g.Wide) + " " + strconv.Itoa(g.Deep) + "\n"
}

func parseSides(line string) (api.Ground, bool) {
	sides, _ := strings.CutPrefix(strings.TrimSuffix(line, "\n"), "ground ")
	left, right, _ := strings.Cut(sides, " ")
	wide, _ := strconv.Atoi(left)
	deep, _ := strconv.Atoi(right)
	g := api.Ground{Wide: wide, Deep: deep}
	// What is no number, or is one in another spelling, is not written again as it was read.
	return g, within(1, api.MaxCells, wide, deep) && formatSides(g) == line
}

func formatRow(heights []int) string {
	var words []string
	for _, h := range heights {
		words = append(words, strconv.Itoa(h))
	}
	return strings.Join(words, " ") + "\n"
}

func parseRow(line string) ([]int, bool) {
	var heights []int
	for word := range strings.SplitSeq(strings.TrimSuffix(line, "\n"), " ") {
		h, _ := strconv.Atoi(word)
		heights = append(heights, h)
	}
	return heights, within(0, maxHeight, heights...) && formatRow(heights) == line
}
