package scene_test

import (
	"slices"
	"testing"

	"armature/api"
	"armature/scene"
)

func TestP74Placed(t *testing.T) {
	tall := ground(2, 2, 1000, 995, 990, 0)
	for _, c := range []struct {
		g       api.Ground
		e       api.Eye
		heights []int
		want    []int // nil: no cell is found
	}{
		{ground(2, 2), eye(0, 1, 50), []int{40, 60}, []int{0, 1}}, {ground(1, 2), eye(0, 1, 50), []int{10, 60}, []int{0, 1}}, {ground(1, 2), eye(0, 1, 50), []int{60, 10}, nil}, {ground(1, 1), eye(0, 1, 50), []int{0}, []int{0}}, {ground(1, 1), eye(0, 1, 50), []int{0, 0}, nil}, {ground(3, 2), eye(0, 1, 50), make([]int, 6), []int{0, 1, 2, 3, 4, 5}},
		// No cell becomes higher than the ground can be.
		{tall, eye(0, 1, 2000), []int{1}, []int{1}}, {tall, eye(0, 1, 2000), []int{0, 5, 10, 1000}, []int{0, 1, 2, 3}}, {tall, eye(0, 1, 2000), []int{6}, []int{2}}, {tall, eye(0, 1, 2000), []int{11, 1, 1}, []int{3, 1, 2}}, {tall, eye(0, 1, 2000), []int{11, 11}, nil}, {ground(1, 1, 990), eye(0, 1, 50), []int{10}, []int{0}}, {ground(1, 1, 990), eye(0, 1, 50), []int{11}, nil},
		// A later mount would hide one that stands, so it goes elsewhere; a mount's own top must be seen; all go on in order, and none goes back.
		{ground(2, 2, 100, 100), eye(0, 1, 800), []int{1000, 900, 0}, []int{2, 1, 0}}, {ground(2, 2, 100, 100), eye(0, 1, 799), []int{1000, 900, 900}, nil}, {ground(2, 3, 0, 0, 300), eye(0, 1, 100), []int{800, 0}, []int{0, 1}}, {ground(2, 2, 1000, 1000), eye(1, 1, 0), []int{500}, nil}, {ground(2, 2, 1000, 1000, 1000), eye(1, 1, 500), []int{500, 500}, nil}, {ground(1, 3, 1000), eye(0, 1, 1000), []int{1000, 1}, []int{1}},
	} {
		wanted, wantError := c.want, api.OK
		if len(c.want) < len(c.heights) {
			wanted, wantError = nil, api.ErrNone
		}
		l, err := scene.Placed(c.g, c.e, c.heights)
		if again, ok := placedOf(c.g, c.e, c.heights); ok != (wantError == api.OK) || ok && !slices.Equal(again, wanted) {
			t.Errorf("placedOf(%v) = %v, %t", c, again, ok)
		}
		if err != wantError || !slices.Equal(l, wanted) {
			t.Errorf("Placed(%v) = %v, %d", c, l, err)
		}
	}
}

func TestP74PlacedAll(t *testing.T) {
	found := 0
	scenes(31, 800, 5, func(d *dice, g api.Ground, e api.Eye) {
		heights := d.mounts()
		want, ok := placedOf(g, e, heights)
		wantError := api.OK
		if !ok {
			wantError = api.ErrNone
		}
		l, err := scene.Placed(g, e, heights)
		if err != wantError || !slices.Equal(l, want) || ok != scene.Right(g, e, heights, l) && len(heights) > 0 {
			t.Fatalf("Placed(%v, %v, %v) = %v, %d; want %v", g, e, heights, l, err, want)
		}
		if ok && len(heights) > 1 {
			found++
		}
	})
	if found < 200 {
		t.Errorf("only %d scenes with mounts have been placed", found)
	}
}

func TestP74PlacedNone(t *testing.T) {
	for _, heights := range [][]int{nil, {}} {
		if l, err := scene.Placed(level(2, 2, 1000), eye(1, 1, 0), heights); len(l) != 0 || err != api.OK {
			t.Errorf("Placed without heights = %v, %d", l, err)
		}
		if !scene.Right(level(2, 2, 1000), eye(1, 1, 0), heights, nil) {
			t.Error("Right without heights = false")
		}
	}
}

func TestP74PlacedErrors(t *testing.T) {
	g, e := ridge()
	check := func(g api.Ground, e api.Eye, heights []int, want api.Errno) {
		t.Helper()
		if l, err := scene.Placed(g, e, heights); len(l) != 0 || err != want {
			t.Errorf("Placed(%v, %v) = %v, %d; want %d", e, heights, l, err, want)
		}
		cells := []int{0, 1, 2, 3, 4, 5, 6, 7, 8}
		if scene.Right(g, e, heights, cells[:min(9, len(heights))]) {
			t.Errorf("Right(%v, %v) = true", e, heights)
		}
	}
	wide := ground(9, 1)
	if !scene.Right(wide, e, make([]int, 6), []int{0, 1, 2, 3, 4, 5}) || scene.Right(wide, e, make([]int, 7), []int{0, 1, 2, 3, 4, 5, 6}) {
		t.Error("Right does not hold for just 6 mounts at most")
	}
	for _, heights := range [][]int{make([]int, 7), {1, 2, 3, 4, 5, 6, 7}, make([]int, 1<<12)} {
		check(wide, e, heights, api.ErrRange)
	}
	for _, n := range wrongUpTo(maxHeight) {
		for _, heights := range [][]int{{n}, {1, n}, {n, 1}, {1, 1, 1, 1, 1, n}} {
			check(wide, e, heights, api.ErrRange)
		}
	}
	for _, heights := range [][]int{nil, {1}, {-1}, {1001}, make([]int, 7)} {
		for _, wrong := range wrongEyes(g) {
			check(g, wrong, heights, api.ErrInvalid)
		}
		for _, wrong := range wrongGrounds() {
			check(wrong, e, heights, api.ErrInvalid)
		}
	}
}

func TestP74Right(t *testing.T) {
	e := eye(0, 1, 50)
	flat := ground(1, 2)
	steep := ground(2, 2, 1000, 995)
	for _, c := range []struct {
		g              api.Ground
		heights, cells []int
		want           bool
	}{
		{flat, []int{60, 10}, []int{1, 0}, true}, {flat, []int{60, 10}, []int{0, 1}, false}, {flat, []int{0, 0}, []int{0, 1}, true}, {flat, nil, nil, true}, {flat, []int{1}, []int{1}, true},
		// As many cells as heights, and all different ones that there are.
		{flat, []int{1}, nil, false}, {flat, nil, []int{0}, false}, {flat, []int{1, 1}, []int{1}, false}, {flat, []int{1}, []int{0, 1}, false}, {flat, []int{1, 1}, []int{0, 0}, false}, {flat, []int{0, 0}, []int{1, 1}, false}, {flat, []int{1}, []int{2}, false}, {flat, []int{1}, []int{-1}, false}, {flat, []int{1, 1}, []int{0, 2}, false}, {flat, []int{1, 1}, []int{-1, 0}, false}, {flat, []int{1}, []int{-1 << 63}, false}, {flat, []int{1}, []int{1<<63 - 1}, false},
		{steep, []int{0}, []int{0}, true}, {steep, []int{1}, []int{0}, false}, {steep, []int{5}, []int{1}, true}, {steep, []int{6}, []int{1}, false},
	} {
		if ok := scene.Right(c.g, e, c.heights, c.cells); ok != c.want {
			t.Errorf("Right(%v) = %t", c, ok)
		}
	}
}

// TestP74RightAll compares with a second account where mounts stand on some cells.
func TestP74RightAll(t *testing.T) {
	var count [2]int
	scenes(32, 4000, 4, func(d *dice, g api.Ground, e api.Eye) {
		heights := d.mounts()
		cells := d.list(len(heights), len(g.Height)+d.throw(2))
		want := rightOf(g, e, heights, cells)
		if ok := scene.Right(g, e, heights, cells); ok != want {
			t.Fatalf("Right(%v, %v, %v, %v) = %t", g, e, heights, cells, ok)
		}
		if want && len(heights) > 1 {
			count[0]++
		} else if !want {
			count[1]++
		}
	})
	if count[0] < 200 || count[1] < 200 {
		t.Errorf("%d of the cells were right, %d wrong", count[0], count[1])
	}
}
