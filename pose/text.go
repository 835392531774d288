package pose

import (
	"strconv"
	"strings"

	"armature/api"
)

// Format returns a line for each bone: its weight and its ways.
func Format(l []api.Bone) string {
	if !ValidLeg(l) {
		return ""
	}
	var text strings.Builder
	for _, b := range l {
		text.WriteString(formatBone(b))
	}
	return text.String()
}

// Parse reads what Format writes.
func Parse(s string) (l []api.Bone, line int, e api.Errno) {
	if len(s) > api.MaxText {
		return nil, 0, api.ErrLong
	}
	for text := range strings.Lines(s) {
		b, ok := parseBone(text)
		if !ok || len(l) == api.MaxBones {
			return nil, len(l), api.ErrSyntax
		}
		l = append(l, b)
	}
	if len(l) == 0 {
		return nil, 0, api.ErrSyntax
	}
	return l, 0, api.OK
}

func formatBone(b api.Bone) string {
	words := []string{strconv.Itoa(b.Weight)}
	for _, w := range b.Ways {
		words = append(words, strconv.Itoa(w.X)+","+strconv.Itoa(w.Y))
	}
	return strings.Join(words, " ") + "\n"
}

func parseBone(line string) (api.Bone, bool) {
	words := strings.Split(strings.TrimSuffix(line, "\n"), " ")
	weight, _ := strconv.Atoi(words[0])
	b := api.Bone{Weight: weight}
	for _, word := range words[1:] {
		left, right, _ := strings.Cut(word, ",")
		x, _ := strconv.Atoi(left)
		y, _ := strconv.Atoi(right)
		b.Ways = append(b.Ways, api.Way{X: x, Y: y})
	}
	// What is no number, or is one in another spelling, is not written again as it was read.
	return b, ValidBone(b) && formatBone(b) == line
}
