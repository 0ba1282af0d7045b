package screen_test

import (
	"math"
	"slices"
	"testing"

	"marquee/api"
	"marquee/screen"
)

// grid is a screen of rows that all go on, with a Back, and the cursor at a place, of which column 4 is the edge.
func grid(t *testing.T, at api.Pos) *screen.Screen {
	t.Helper()
	s := newScreen(t, 4, 4, 9)
	if s.Move(at.Row, at.Col); at.Col == 4 {
		edge(s, at.Row)
	}
	s.Turn([][]int{{1}, {31}, {44}})
	return write(s, "+abcd", "+efgh", "+ijkl", "+mnop")
}

func TestEraseLine(t *testing.T) {
	for _, x := range []struct {
		at   api.Pos
		k    int
		want []string
	}{
		{pos(1, 1), 0, []string{"+abcd", "+e...", "ijkl", "+mnop"}}, // with the last cell what goes on from it
		{pos(1, 0), 0, []string{"+abcd", "....", "ijkl", "+mnop"}},
		{pos(1, 3), 0, []string{"+abcd", "+efg.", "ijkl", "+mnop"}},
		{pos(1, 4), 0, []string{"+abcd", "+efg.", "ijkl", "+mnop"}}, // In
		{pos(3, 2), 0, []string{"+abcd", "+efgh", "+ijkl", "+mn.."}},
		{pos(1, 0), 1, []string{"+abcd", "+.fgh", "+ijkl", "+mnop"}},
		{pos(1, 2), 1, []string{"+abcd", "+...h", "+ijkl", "+mnop"}},
		{pos(1, 3), 1, []string{"+abcd", "....", "ijkl", "+mnop"}},
		{pos(1, 4), 1, []string{"+abcd", "....", "ijkl", "+mnop"}},
		{pos(1, 2), 2, []string{"+abcd", "....", "ijkl", "+mnop"}},
		{pos(0, 4), 2, []string{"....", "efgh", "+ijkl", "+mnop"}},
		{pos(1, 2), 3, []string{"+abcd", "+efgh", "+ijkl", "+mnop"}},
		{pos(1, 2), -1, []string{"+abcd", "+efgh", "+ijkl", "+mnop"}},
		{pos(1, 4), math.MinInt, []string{"+abcd", "+efgh", "+ijkl", "+mnop"}},
		{pos(1, 4), math.MaxInt, []string{"+abcd", "+efgh", "+ijkl", "+mnop"}},
	} {
		s := grid(t, x.at)
		s.EraseLine(x.k)
		shows(t, "EraseLine", s, x.at, 0, x.want...)
	}
}

func TestErasePage(t *testing.T) {
	for _, x := range []struct {
		at   api.Pos
		k    int
		want []string
	}{
		{pos(1, 1), 0, []string{"+abcd", "+e...", "....", "...."}},
		{pos(1, 0), 0, []string{"+abcd", "....", "....", "...."}},
		{pos(3, 4), 0, []string{"+abcd", "+efgh", "+ijkl", "+mno."}},
		{pos(2, 1), 1, []string{"....", "....", "..kl", "+mnop"}},
		{pos(2, 4), 1, []string{"....", "....", "....", "mnop"}},
		{pos(0, 0), 1, []string{"+.bcd", "+efgh", "+ijkl", "+mnop"}},
		{pos(1, 2), 2, []string{"....", "....", "....", "...."}},
		{pos(1, 4), 3, []string{"+abcd", "+efgh", "+ijkl", "+mnop"}}, // there is no history
		{pos(1, 2), 4, []string{"+abcd", "+efgh", "+ijkl", "+mnop"}},
		{pos(1, 2), -1, []string{"+abcd", "+efgh", "+ijkl", "+mnop"}},
		{pos(1, 2), math.MinInt, []string{"+abcd", "+efgh", "+ijkl", "+mnop"}},
		{pos(1, 2), math.MaxInt, []string{"+abcd", "+efgh", "+ijkl", "+mnop"}},
	} {
		s := grid(t, x.at)
		s.ErasePage(x.k)
		shows(t, "ErasePage", s, x.at, 0, x.want...)
	}
}

func TestEraseTheHistory(t *testing.T) {
	s := grid(t, pos(1, 4))
	s.Scroll(2)
	for _, k := range []int{0, 1, 2, 4} { // these leave it
		if s.ErasePage(k); s.Page().Base() != 2 {
			t.Errorf("ErasePage(%d): base %d", k, s.Page().Base())
		}
	}
	s = grid(t, pos(1, 4))
	s.Scroll(2)
	s.Page().Shifts()
	s.ErasePage(3)
	shows(t, "ErasePage(3)", s, pos(1, 4), 0, "ijkl", "+mnop", "....", "....")
	if l := s.Page().Shifts(); !slices.Equal(l, []api.Shift{{Kind: api.Evict, N: 2}}) {
		t.Errorf("shifts %v", l)
	}
}

func TestEditCells(t *testing.T) {
	erase, insert, remove := (*screen.Screen).EraseChars, (*screen.Screen).InsertChars, (*screen.Screen).DeleteChars
	for _, x := range []struct {
		name string
		do   func(s *screen.Screen, n int)
		x, n int
		to   int
		want []string // the row, and the one behind it
	}{
		{"EraseChars", erase, 1, 2, 1, []string{"+e..h", "+ijkl"}},
		{"EraseChars", erase, 1, 3, 1, []string{"+e...", "ijkl"}},
		{"EraseChars", erase, 1, 4, 1, []string{"+e...", "ijkl"}},
		{"EraseChars", erase, 0, 4, 0, []string{"....", "ijkl"}},
		{"EraseChars", erase, 0, 3, 0, []string{"+...h", "+ijkl"}},
		{"EraseChars", erase, 2, math.MaxInt, 2, []string{"+ef..", "ijkl"}},
		{"EraseChars", erase, 4, 1, 3, []string{"+efg.", "ijkl"}},
		{"EraseChars", erase, 2, 0, 2, []string{"+ef.h", "+ijkl"}},
		{"EraseChars", erase, 2, -1, 2, []string{"+ef.h", "+ijkl"}},
		{"EraseChars", erase, 2, math.MinInt, 2, []string{"+ef.h", "+ijkl"}},
		{"InsertChars", insert, 1, 1, 1, []string{"+e.fg", "+ijkl"}},
		{"InsertChars", insert, 1, 2, 1, []string{"+e..f", "+ijkl"}},
		{"InsertChars", insert, 1, math.MaxInt, 1, []string{"+e...", "+ijkl"}},
		{"InsertChars", insert, 4, 1, 3, []string{"+efg.", "+ijkl"}},
		{"InsertChars", insert, 0, 0, 0, []string{"+.efg", "+ijkl"}},
		{"InsertChars", insert, 0, -1, 0, []string{"+.efg", "+ijkl"}},
		{"InsertChars", insert, 2, math.MinInt, 2, []string{"+ef.g", "+ijkl"}},
		{"DeleteChars", remove, 1, 1, 1, []string{"+egh.", "+ijkl"}},
		{"DeleteChars", remove, 0, 3, 0, []string{"+h...", "+ijkl"}},
		{"DeleteChars", remove, 0, 4, 0, []string{"+....", "+ijkl"}},
		{"DeleteChars", remove, 1, math.MaxInt, 1, []string{"+e...", "+ijkl"}},
		{"DeleteChars", remove, 4, 9, 3, []string{"+efg.", "+ijkl"}},
		{"DeleteChars", remove, 1, 0, 1, []string{"+egh.", "+ijkl"}},
		{"DeleteChars", remove, 1, -1, 1, []string{"+egh.", "+ijkl"}},
		{"DeleteChars", remove, 3, math.MinInt, 3, []string{"+efg.", "+ijkl"}},
	} {
		s := grid(t, pos(1, x.x))
		x.do(s, x.n)
		shows(t, x.name, s, pos(1, x.to), 0, "+abcd", x.want[0], x.want[1], "+mnop")
	}
}

func TestEditLines(t *testing.T) {
	insert, remove := (*screen.Screen).InsertLines, (*screen.Screen).DeleteLines
	all := []string{"+abcd", "+efgh", "+ijkl", "+mnop"}
	for _, x := range []struct {
		name        string
		do          func(s *screen.Screen, n int)
		top, bottom int
		at, to      api.Pos
		n           int
		want        []string
	}{
		{"InsertLines", insert, 0, 3, pos(1, 2), pos(1, 0), 1, []string{"+abcd", "....", "efgh", "+ijkl"}},
		{"InsertLines", insert, 0, 3, pos(1, 2), pos(1, 0), 2, []string{"+abcd", "....", "....", "efgh"}},
		{"InsertLines", insert, 0, 3, pos(0, 3), pos(0, 0), math.MaxInt, []string{"....", "....", "....", "...."}},
		{"InsertLines", insert, 0, 2, pos(1, 2), pos(1, 0), 9, []string{"+abcd", "....", "....", "mnop"}},
		{"InsertLines", insert, 1, 2, pos(1, 2), pos(1, 0), 1, []string{"+abcd", "....", "efgh", "mnop"}},
		{"InsertLines", insert, 1, 2, pos(2, 2), pos(2, 0), 1, []string{"+abcd", "+efgh", "....", "mnop"}},
		{"InsertLines", insert, 0, 3, pos(3, 2), pos(3, 0), 1, []string{"+abcd", "+efgh", "+ijkl", "...."}},
		{"InsertLines", insert, 0, 3, pos(2, 2), pos(2, 0), 0, []string{"+abcd", "+efgh", "....", "ijkl"}},
		{"InsertLines", insert, 0, 3, pos(2, 2), pos(2, 0), math.MinInt, []string{"+abcd", "+efgh", "....", "ijkl"}},
		{"InsertLines", insert, 1, 2, pos(0, 2), pos(0, 2), 1, all},
		{"InsertLines", insert, 1, 2, pos(3, 3), pos(3, 3), 1, all},
		{"DeleteLines", remove, 0, 3, pos(1, 2), pos(1, 0), 1, []string{"+abcd", "ijkl", "+mnop", "...."}},
		{"DeleteLines", remove, 0, 3, pos(0, 2), pos(0, 0), 1, []string{"efgh", "+ijkl", "+mnop", "...."}}, // nothing comes into the history
		{"DeleteLines", remove, 0, 3, pos(0, 2), pos(0, 0), 2, []string{"ijkl", "+mnop", "....", "...."}},
		{"DeleteLines", remove, 0, 3, pos(1, 2), pos(1, 0), math.MaxInt, []string{"+abcd", "....", "....", "...."}},
		{"DeleteLines", remove, 1, 2, pos(1, 2), pos(1, 0), 1, []string{"+abcd", "ijkl", "....", "mnop"}},
		{"DeleteLines", remove, 1, 2, pos(2, 2), pos(2, 0), 7, []string{"+abcd", "+efgh", "....", "mnop"}},
		{"DeleteLines", remove, 0, 3, pos(2, 2), pos(2, 0), 0, []string{"+abcd", "+efgh", "mnop", "...."}},
		{"DeleteLines", remove, 0, 3, pos(2, 2), pos(2, 0), math.MinInt, []string{"+abcd", "+efgh", "mnop", "...."}},
		{"DeleteLines", remove, 1, 2, pos(0, 2), pos(0, 2), 1, all},
		{"DeleteLines", remove, 1, 2, pos(3, 3), pos(3, 3), 1, all},
	} {
		s := grid(t, pos(0, 0))
		s.Margins(x.top, x.bottom)
		s.Move(x.at.Row, x.at.Col)
		x.do(s, x.n)
		shows(t, x.name, s, x.to, 0, x.want...)
	}
}

func TestEditLinesAtTheEdge(t *testing.T) {
	s := newScreen(t, 4, 4, 9)
	s.Margins(1, 2)
	for _, x := range []struct{ y, col int }{{0, 4}, {1, 0}, {2, 0}, {3, 4}} {
		edge(s, x.y)
		s.InsertLines(1)
		isAt(t, "InsertLines", s, pos(x.y, x.col))
		edge(s, x.y)
		s.DeleteLines(1)
		isAt(t, "DeleteLines", s, pos(x.y, x.col))
	}
}

// TestBlanksHaveTheBackAlone holds what is erased, and what comes in, against blanks.
func TestBlanksHaveTheBackAlone(t *testing.T) {
	want := api.Cell{Attr: api.Attr{Back: blue}}
	for i, x := range []struct {
		do func(s *screen.Screen)
		at api.Pos
	}{
		{func(s *screen.Screen) { s.EraseLine(0) }, pos(1, 3)},
		{func(s *screen.Screen) { s.EraseLine(1) }, pos(1, 0)},
		{func(s *screen.Screen) { s.EraseLine(2) }, pos(1, 3)},
		{func(s *screen.Screen) { s.ErasePage(0) }, pos(2, 0)},
		{func(s *screen.Screen) { s.ErasePage(1) }, pos(0, 0)},
		{func(s *screen.Screen) { s.ErasePage(2) }, pos(3, 3)},
		{func(s *screen.Screen) { s.EraseChars(1) }, pos(1, 1)},
		{func(s *screen.Screen) { s.InsertChars(1) }, pos(1, 1)},
		{func(s *screen.Screen) { s.DeleteChars(1) }, pos(1, 3)},
		{func(s *screen.Screen) { s.InsertLines(1) }, pos(1, 3)},
		{func(s *screen.Screen) { s.DeleteLines(1) }, pos(3, 0)},
		{func(s *screen.Screen) { s.Scroll(1) }, pos(3, 0)},
		{func(s *screen.Screen) { s.Scroll(-1) }, pos(0, 0)},
		{func(s *screen.Screen) { s.Move(3, 0); s.Feed() }, pos(3, 2)},
		{func(s *screen.Screen) { s.Move(0, 0); s.FeedBack() }, pos(0, 2)},
	} {
		s := grid(t, pos(1, 1))
		x.do(s)
		row, _ := s.Page().Row(s.Page().Base() + x.at.Row)
		if row.Cells[x.at.Col] != want {
			t.Errorf("%d: %+v, not %+v", i, row.Cells[x.at.Col], want)
		}
	}
}
