package carve

import (
	"slices"
	"strconv"
	"strings"

	"armature/api"
)

// Format returns a line with the side, and then a line of signs for each z and y.
func Format(b api.Block) string {
	if !ValidBlock(b) {
		return ""
	}
	signs := asked(b.Side, func(g api.Grain) byte {
		if has(b, g) {
			return '#'
		}
		return '.'
	})
	var text strings.Builder
	text.WriteString(formatSide(b.Side))
	for row := range slices.Chunk(signs, b.Side) {
		text.Write(row)
		text.WriteByte('\n')
	}
	return text.String()
}

// Parse reads what Format writes.
func Parse(s string) (b api.Block, line int, e api.Errno) {
	if len(s) > api.MaxText {
		return api.Block{}, 0, api.ErrLong
	}
	var read api.Block
	for text := range strings.Lines(s) {
		ok := false
		if line == 0 {
			read.Side, ok = parseSide(text)
		} else if line <= read.Side*read.Side {
			read.Has, ok = appendRow(read.Has, text, read.Side)
		}
		if !ok {
			return api.Block{}, line, api.ErrSyntax
		}
		line++
	}
	if !ValidBlock(read) {
		return api.Block{}, line, api.ErrSyntax
	}
	return read, 0, api.OK
}

func formatSide(side int) string { return "side " + strconv.Itoa(side) + "\n" }

func parseSide(line string) (int, bool) {
	for side := 1; side <= api.MaxSide; side++ {
		if line == formatSide(side) {
			return side, true
		}
	}
	return 0, false
}

// appendRow appends the values of a line of signs.
func appendRow(has []bool, line string, side int) ([]bool, bool) {
	signs, ended := strings.CutSuffix(line, "\n")
	if !ended || len(signs) != side || strings.Trim(signs, "#.") != "" {
		return nil, false
	}
	for i := range side {
		has = append(has, signs[i] == '#')
	}
	return has, true
}
