package jump_test

import (
	"math"
	"slices"
	"testing"

	"marquee/api"
	"marquee/jump"
)

// goes wants the row that a way leads to, or none.
func goes(t *testing.T, what string, way func(l []int, at int) (int, bool), l []int, at, want int, is bool) {
	t.Helper()
	if n, ok := way(l, at); n != want || ok != is {
		t.Errorf("%s(%v, %d): %d %v, not %d %v", what, l, at, n, ok, want, is)
	}
}

func steps(t *testing.T, l []int, at, n, want int) {
	t.Helper()
	if got := jump.Step(l, at, n); got != want {
		t.Errorf("Step(%v, %d, %d): %d, not %d", l, at, n, got, want)
	}
}

func TestExample(t *testing.T) {
	l := []int{3, 7, 9}
	goes(t, "Next", jump.Next, l, 3, 7, true)
	steps(t, l, 3, 5, 9)
	goes(t, "Nearest", jump.Nearest, l, 5, 3, true)
}

func TestSort(t *testing.T) {
	for _, x := range []struct{ l, want []int }{
		{nil, nil}, {[]int{}, nil}, {[]int{5}, []int{5}},
		{[]int{3, 7, 9}, []int{3, 7, 9}}, {[]int{9, 3, 7, 3, 9}, []int{3, 7, 9}}, {[]int{4, 4, 4}, []int{4}},
		{[]int{0, -1, math.MaxInt, math.MinInt, 0, math.MaxInt}, []int{math.MinInt, -1, 0, math.MaxInt}},
	} {
		if got := jump.Sort(x.l...); !slices.Equal(got, x.want) {
			t.Errorf("Sort(%v): %v, not %v", x.l, got, x.want)
		}
	}
}

func TestNextAndAhead(t *testing.T) {
	l := []int{9, 3, 7, 3, 9}
	for _, x := range []struct {
		at, next int
		is       bool
		ahead    int
		was      bool
	}{
		{math.MinInt, 3, true, 0, false}, {-1, 3, true, 0, false}, {2, 3, true, 0, false},
		{3, 7, true, 0, false}, {4, 7, true, 3, true}, {6, 7, true, 3, true}, {7, 9, true, 3, true},
		{8, 9, true, 7, true}, {9, 0, false, 7, true}, {10, 0, false, 9, true}, {math.MaxInt, 0, false, 9, true},
	} {
		goes(t, "Next", jump.Next, l, x.at, x.next, x.is)
		goes(t, "Ahead", jump.Ahead, l, x.at, x.ahead, x.was)
		goes(t, "Next", jump.Next, nil, x.at, 0, false)
		goes(t, "Ahead", jump.Ahead, nil, x.at, 0, false)
	}
	edges := []int{math.MaxInt, math.MinInt}
	goes(t, "Next", jump.Next, edges, math.MinInt, math.MaxInt, true)
	goes(t, "Ahead", jump.Ahead, edges, math.MaxInt, math.MinInt, true)
	goes(t, "Next", jump.Next, edges, math.MaxInt, 0, false)
	goes(t, "Ahead", jump.Ahead, edges, math.MinInt, 0, false)
	goes(t, "Next", jump.Next, []int{-3, -7}, -7, -3, true)
	goes(t, "Ahead", jump.Ahead, []int{-3, -7}, -3, -7, true)
	goes(t, "Next", jump.Next, []int{0, 5}, -1, 0, true) // 0 is a row, as others are
	goes(t, "Ahead", jump.Ahead, []int{0, 5}, 5, 0, true)
}

func TestNearest(t *testing.T) {
	for _, x := range []struct {
		l        []int
		at, want int
	}{
		{[]int{9, 3, 7, 3}, 3, 3}, {[]int{9, 3, 7, 3}, 4, 3}, {[]int{9, 3, 7, 3}, 5, 3}, {[]int{9, 3, 7, 3}, 6, 7},
		{[]int{9, 3, 7, 3}, 8, 7}, {[]int{7, 9}, 8, 7}, {[]int{9, 7}, 8, 7}, {[]int{9, 3, 7, 3}, 9, 9},
		{[]int{9, 3, 7, 3}, 100, 9}, {[]int{9, 3, 7, 3}, -100, 3}, {[]int{9, 3, 7, 3}, math.MinInt, 3}, {[]int{9, 3, 7, 3}, math.MaxInt, 9},
		{[]int{-1, 1}, 0, -1}, {[]int{1, -1}, 0, -1}, {[]int{0}, math.MaxInt, 0},
		{[]int{math.MinInt, math.MaxInt}, 0, math.MaxInt}, // nearer by one
		{[]int{math.MinInt, math.MaxInt}, -1, math.MinInt},
		{[]int{math.MinInt, math.MaxInt}, -2, math.MinInt},
		{[]int{math.MinInt, math.MaxInt}, 1, math.MaxInt},
		{[]int{math.MinInt, 5}, math.MaxInt, 5}, // as far from each other as can be
		{[]int{math.MaxInt, -5}, math.MinInt, -5},
		{[]int{math.MinInt, math.MaxInt}, math.MaxInt, math.MaxInt},
		{[]int{math.MinInt, math.MaxInt}, math.MinInt, math.MinInt},
		{[]int{math.MinInt}, math.MaxInt, math.MinInt},
		{[]int{math.MinInt + 1, math.MaxInt}, 0, math.MinInt + 1}, // as near as each other
	} {
		goes(t, "Nearest", jump.Nearest, x.l, x.at, x.want, true)
		goes(t, "Nearest", jump.Nearest, nil, x.at, 0, false)
	}
}

func TestStep(t *testing.T) {
	l := []int{9, 3, 7, 3}
	for _, x := range []struct{ at, n, want int }{
		{0, 0, 0}, {0, 1, 3}, {0, 2, 7}, {0, 3, 9}, {0, 4, 9}, {0, math.MaxInt, 9}, {0, -1, 0}, {0, math.MinInt, 0},
		{3, 0, 3}, {3, 1, 7}, {3, 2, 9}, {3, 3, 9}, {3, -1, 3}, {3, -5, 3},
		{5, 0, 5}, {5, 1, 7}, {5, 2, 9}, {5, -1, 3}, {5, -2, 3},
		{7, 1, 9}, {7, -1, 3}, {9, 1, 9}, {9, -1, 7}, {9, -2, 3}, {9, -3, 3}, {9, math.MinInt, 3}, {9, math.MaxInt, 9},
		{10, 1, 10}, {10, math.MaxInt, 10}, {10, -1, 9}, {10, -2, 7}, {10, -3, 3}, {10, -4, 3},
		{math.MinInt, 2, 7}, {math.MaxInt, -2, 7}, {math.MinInt, -2, math.MinInt}, {math.MaxInt, 2, math.MaxInt},
	} {
		steps(t, l, x.at, x.n, x.want)
		steps(t, nil, x.at, x.n, x.at)
	}
	edges := []int{math.MaxInt, math.MinInt}
	steps(t, edges, 0, 1, math.MaxInt)
	steps(t, edges, 0, -1, math.MinInt)
	steps(t, edges, math.MaxInt, -9, math.MinInt)
	steps(t, edges, math.MinInt, 9, math.MaxInt)
}

// TestStepIsQuick steps as often as can be told through many stops.
func TestStepIsQuick(t *testing.T) {
	l := make([]int, 300000)
	for i := range l {
		l[i] = 2 * (len(l) - i)
	}
	steps(t, l, 0, math.MaxInt, 600000)
	steps(t, l, 700000, math.MinInt, 2)
	steps(t, l, 0, 100000, 200000)
	steps(t, l, 600001, -100000, 400002)
}

// of wants the stops of blocks.
func of(t *testing.T, l []api.Block, kind int, want ...int) {
	t.Helper()
	if got := jump.Of(l, kind); !slices.Equal(got, want) {
		t.Errorf("Of(%v, %d): %v, not %v", l, kind, got, want)
	}
}

// places is a block whose places are in rows of their own.
func places(id uint64, phase, row int) api.Block {
	at := func(n int) api.Pos { return api.Pos{Row: row + n, Col: 5 - n} }
	return api.Block{Id: id, Phase: phase, Start: at(0), Input: at(1), Output: at(2), Done: at(3), Stop: at(4)}
}

func TestOf(t *testing.T) {
	failed := places(3, api.Ended, 20)
	failed.Code, failed.Has = 17, true
	below := places(4, api.Ended, 30)
	below.Code, below.Has = -1, true
	fine := places(5, api.Ended, 40)
	fine.Has = true
	bare := places(6, api.Ended, 50) // a Code, and yet it has none
	bare.Code = 9
	l := []api.Block{
		{Phase: api.Unmarked, Stop: api.Pos{Row: 1}},
		places(1, api.Prompt, 1), places(2, api.Input, 10), failed, below, fine, bare, places(7, api.Output, 60),
	}
	of(t, l, 0, 1, 10, 20, 30, 40, 50, 60)
	of(t, l, 1, 22, 32, 42, 52, 62)
	of(t, l, 2, 20, 30)
	for _, kind := range []int{math.MinInt, -1, 3, 4, math.MaxInt} {
		of(t, l, kind)
	}
	for kind := range 3 {
		of(t, nil, kind)
		of(t, l[:1], kind)
	}
}

// TestOfAny takes blocks that no store told.
func TestOfAny(t *testing.T) {
	for phase := -1; phase <= 6; phase++ {
		for _, id := range []uint64{0, 1, math.MaxUint64} {
			b := places(id, phase, 7)
			b.Code, b.Has = math.MinInt, true
			l := []api.Block{b, b}
			if id == 0 {
				of(t, l, 0)
				of(t, l, 1)
				of(t, l, 2)
				continue
			}
			of(t, l, 0, 7) // each once
			of(t, l, 2, 7)
			if phase == api.Output || phase == api.Ended {
				of(t, l, 1, 9)
			} else {
				of(t, l, 1)
			}
		}
	}
	l := []api.Block{places(3, api.Output, 9), places(2, api.Output, -4), places(8, api.Ended, 9), places(1, api.Ended, 0)}
	of(t, l, 0, -4, 0, 9) // rising, whatever their order
	of(t, l, 1, -2, 2, 11)
	of(t, l, 2)
}

// TestOfSharedRows holds that blocks that start in one row are one stop.
func TestOfSharedRows(t *testing.T) {
	a, b := places(1, api.Ended, 4), places(2, api.Ended, 4)
	b.Start.Col = 30
	a.Code, a.Has, b.Code, b.Has = 1, true, 2, true
	l := []api.Block{{}, a, b}
	of(t, l, 0, 4)
	of(t, l, 1, 6)
	of(t, l, 2, 4)
}

func TestBlock(t *testing.T) {
	a, b, c := places(1, api.Ended, 2), places(2, api.Ended, 6), places(3, api.Prompt, 6)
	c.Start.Col = 9
	l := []api.Block{{Stop: a.Start}, a, b, c}
	for _, x := range []struct {
		row, col int
		id       uint64
	}{
		{0, 0, 0}, {0, 99, 0}, {2, 4, 0}, {2, 5, 1}, {2, 6, 1}, {3, 0, 1}, {5, 99, 1}, {6, 0, 1}, {6, 4, 1},
		{6, 5, 2}, {6, 8, 2}, {6, 9, 3}, {7, 0, 3}, {math.MaxInt, math.MaxInt, 3}, {math.MaxInt, math.MinInt, 3}, {6, math.MaxInt, 3}, {6, math.MinInt, 1},
	} {
		at := api.Pos{Row: x.row, Col: x.col}
		if got, ok := jump.Block(l, at); !ok || got != l[x.id] {
			t.Errorf("Block at %v: %v %v, not %d", at, got, ok, x.id)
		}
	}
	for _, at := range []api.Pos{{Row: -1}, {Row: -1, Col: 9}, {Col: -1}, {Row: math.MinInt, Col: math.MaxInt}} {
		if got, ok := jump.Block(l, at); ok || got != (api.Block{}) {
			t.Errorf("Block at %v: %v %v", at, got, ok)
		}
	}
	if got, ok := jump.Block(nil, api.Pos{}); ok || got != (api.Block{}) {
		t.Error("Block of nothing", got, ok)
	}
	if got, ok := jump.Block(l[1:], api.Pos{Row: 2, Col: 4}); ok || got != (api.Block{}) {
		t.Error("Block ahead of all", got, ok)
	}
}

// TestBlockOfAny takes blocks in any order: the last one of the list is meant.
func TestBlockOfAny(t *testing.T) {
	l := []api.Block{places(3, api.Ended, 9), places(2, api.Ended, 1), places(1, api.Ended, 20), {}, places(4, api.Ended, 15)}
	for row, id := range map[int]uint64{0: 0, 1: 0, 9: 0, 14: 0, 15: 0, 16: 4, 25: 4} {
		if got, ok := jump.Block(l, api.Pos{Row: row}); !ok || got.Id != id {
			t.Errorf("Block in the row %d: %v %v", row, got, ok)
		}
	}
	if got, ok := jump.Block(l[:3], api.Pos{Row: 12}); !ok || got.Id != 2 {
		t.Error("Block", got, ok)
	}
}

func TestWhatIsHandedInStays(t *testing.T) {
	l := []int{9, 3, 7, 3, 8, 1}
	keep := slices.Clone(l)
	piece := l[:4]
	for _, got := range [][]int{jump.Sort(piece...), jump.Sort(l[:1]...), jump.Sort(l[:0]...)} {
		for i := range got[:cap(got)] {
			got[:cap(got)][i] = 77
		}
	}
	for n := -3; n <= 3; n++ {
		jump.Step(piece, 5, n)
		jump.Next(piece, n)
		jump.Ahead(piece, n)
		jump.Nearest(piece, n)
	}
	if !slices.Equal(l, keep) {
		t.Error("the rows are others", l)
	}
	blocks := []api.Block{places(2, api.Ended, 9), places(1, api.Ended, 2)}
	blocksKeep := slices.Clone(blocks)
	jump.Of(blocks, 0)
	jump.Of(blocks, 1)
	jump.Block(blocks, api.Pos{Row: 3})
	if !slices.Equal(blocks, blocksKeep) {
		t.Error("the blocks are others", blocks)
	}
}
