package text_test

import (
	"math"
	"slices"
	"testing"

	"marquee/api"
	"marquee/cells"
	"marquee/flow"
	"marquee/text"
)

// sorts are cells of all sorts, among them such as no right row has.
var sorts = []api.Cell{
	{},
	{R: 'a'},
	pad,
	{R: wide, Half: api.Left},
	{R: wide, Half: api.Right},
	{R: 'm', More: "\u0301"},
	{Attr: blue},
	{R: 'p', Half: api.Pad},
	{Half: api.Right},
	{Half: api.Left},
	{R: -1, More: "\xcc"},
	{R: '\n'},
	{R: 'h', Half: 4},
	{More: "x"},
}

// chance answers numbers that look like chance, the same ones in each run.
func chance() func(n int) int {
	seed := uint64(1)
	return func(n int) int {
		seed = seed*6364136223846793005 + 1442695040888963407
		return int(seed >> 33 % uint64(n))
	}
}

// check holds all that is answered of a part against what is told.
func check(t *testing.T, l []api.Row, from, to api.Pos) {
	t.Helper()
	told := toldPart(l, from, to)
	s := make([]byte, len(told))
	places := make([]api.Pos, len(told))
	for i, x := range told {
		s[i], places[i] = x.c, x.at
	}
	if got := text.Of(l, from, to); got != string(s) {
		t.Fatalf("Of(%v, %v, %v): %q, not %q", l, from, to, got, s)
	}
	if got := text.Places(l, from, to); !slices.Equal(got, places) {
		t.Fatalf("Places(%v, %v, %v): %v, not %v", l, from, to, got, places)
	}
	if got := text.Lines(l, from, to); !slices.Equal(got, toldSplit(string(s))) {
		t.Fatalf("Lines(%v, %v, %v): %q, of %q", l, from, to, got, s)
	}
}

// eachRows goes through all rows, so many at most, of so many cells at most, of the first few sorts.
func eachRows(most, width, kinds int, do func(l []api.Row)) {
	var kept [][]api.Cell
	var grow func(row []api.Cell)
	grow = func(row []api.Cell) {
		kept = append(kept, row)
		for _, c := range sorts[:kinds] {
			if len(row) < width {
				grow(append(slices.Clone(row), c))
			}
		}
	}
	grow(nil)
	var stack func(l []api.Row)
	stack = func(l []api.Row) {
		do(l)
		if len(l) == most {
			return
		}
		for _, row := range kept {
			stack(append(slices.Clone(l), api.Row{Cells: row}))
			stack(append(slices.Clone(l), api.Row{Cells: row, Cont: true}))
		}
	}
	stack(nil)
}

// eachPart goes through all parts of so many rows and columns, and some beyond.
func eachPart(rows, cols int, do func(from, to api.Pos)) {
	for from := range (rows + 2) * (cols + 2) {
		for to := range (rows + 2) * (cols + 2) {
			do(pos(from/(cols+2)-1, from%(cols+2)-1), pos(to/(cols+2)-1, to%(cols+2)-1))
		}
	}
}

// TestEachPart holds each part of all small documents.
func TestEachPart(t *testing.T) {
	eachRows(2, 2, 4, func(l []api.Row) {
		eachPart(2, 2, func(from, to api.Pos) { check(t, l, from, to) })
	})
	eachRows(3, 1, 4, func(l []api.Row) {
		eachPart(4, 1, func(from, to api.Pos) { check(t, l, from, to) })
	})
	eachRows(1, 3, len(sorts), func(l []api.Row) {
		check(t, l, pos(0, 0), pos(1, 0))
		check(t, l, pos(0, 1), pos(0, 3))
	})
}

// anyRows are rows of cells of all sorts, or, if they are to be right, of those of right rows.
func anyRows(pick func(int) int, right bool) []api.Row {
	l := make([]api.Row, pick(8))
	for i := range l {
		l[i].Cont = pick(3) > 0
		for range pick(7) {
			switch k := pick(len(sorts) + 8); {
			case k >= len(sorts):
				l[i].Cells = append(l[i].Cells, row("\u3042").Cells...)
			case right:
				l[i].Cells = append(l[i].Cells, []api.Cell{{}, {R: 'a'}, {Attr: blue}, {R: 'm', More: "\u0301"}}[k%4])
			default:
				l[i].Cells = append(l[i].Cells, sorts[k])
			}
		}
		if right && pick(3) == 0 {
			l[i].Cells = append(l[i].Cells, pad)
		}
	}
	return l
}

// TestAnyPart holds parts of any rows, from and to places near and far.
func TestAnyPart(t *testing.T) {
	pick := chance()
	far := []int{math.MinInt, -1, 1 << 40, math.MaxInt}
	number := func() int {
		if pick(10) == 0 {
			return far[pick(len(far))]
		}
		return pick(10)
	}
	for range 100000 {
		l := anyRows(pick, false)
		check(t, l, pos(number(), number()), pos(number(), number()))
		check(t, l, pos(pick(3), pick(3)), pos(pick(9), pick(9)))
	}
}

// TestJoined: parts that are cut where a line begins have together what they have as one.
func TestJoined(t *testing.T) {
	pick := chance()
	for range 20000 {
		l := anyRows(pick, false)
		from, to := pos(pick(4), pick(4)), pos(3+pick(7), pick(7))
		for _, line := range flow.Lines(l) {
			cut := pos(line[0], 0)
			if toldAhead(cut, from) || toldAhead(to, cut) {
				continue
			}
			if a, b, all := text.Of(l, from, cut), text.Of(l, cut, to), text.Of(l, from, to); a+b != all {
				t.Fatalf("of %v to %v of %v, cut at %v: %q, and %q, not %q", from, to, l, cut, a, b, all)
			}
			places := append(text.Places(l, from, cut), text.Places(l, cut, to)...)
			if !slices.Equal(places, text.Places(l, from, to)) {
				t.Fatalf("of %v to %v of %v, cut at %v: %v", from, to, l, cut, places)
			}
		}
	}
}

// TestAnyWidth: all of a document of right rows has the same text, whatever the width.
func TestAnyWidth(t *testing.T) {
	pick := chance()
	for range 20000 {
		l := anyRows(pick, true)
		for _, r := range l {
			if !cells.Right(r.Cells) {
				t.Fatalf("%v isn't right", r)
			}
		}
		want := text.Of(l, pos(0, 0), pos(len(l), 0))
		for range 3 {
			l, _ = flow.Reflow(l, 2+pick(9))
			if got := text.Of(l, pos(0, 0), pos(len(l), 0)); got != want {
				t.Fatalf("%v: %q, not %q", l, got, want)
			}
		}
	}
}
