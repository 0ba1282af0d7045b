package screen_test

import (
	"math"
	"slices"
	"testing"

	"marquee/api"
	"marquee/cells"
	"marquee/chars"
	"marquee/screen"
	"marquee/utf"
)

const (
	wide = 0x3042
	mark = 0x301
)

var (
	red  = api.Color{Kind: 1, N: 1}
	blue = api.Color{Kind: 1, N: 4}
)

// far are numbers that are none of a screen's rows or columns.
var far = []int{math.MinInt, -1, math.MaxInt}

// wrongSizes are rows and columns that may not be.
var wrongSizes = [][2]int{
	{0, 5}, {-1, 5}, {math.MinInt, 5}, {1001, 5}, {math.MaxInt, 5},
	{5, 1}, {5, 0}, {5, -1}, {5, math.MinInt}, {5, 1001}, {5, math.MaxInt}, {0, 0},
}

// both are a screen, and what the document's words make of it.
type both struct {
	*testing.T
	s *screen.Screen
	m *told
}

func newScreen(t *testing.T, rows, cols, lines int) *screen.Screen {
	t.Helper()
	s, e := screen.New(rows, cols, lines)
	if e != api.OK || s == nil {
		t.Fatalf("New(%d, %d, %d): %v", rows, cols, lines, e)
	}
	return s
}

func newBoth(t *testing.T, rows, cols, lines int) both {
	t.Helper()
	return both{t, newScreen(t, rows, cols, lines), newTold(rows, cols, lines)}
}

// state is what is told, as a screen tells it.
func (m *told) state() screen.State {
	return screen.State{At: pos(m.y, m.x), Attr: m.attr, Chars: m.chars, Opts: m.opts, Top: m.top, Bottom: m.bottom, Kept: len(m.kept) > 0}
}

// check holds all that a screen answers against what is told.
func (b both) check(what ...any) {
	b.Helper()
	p := b.s.Page()
	if x := b.s.State(); x != b.m.state() {
		b.Fatalf("%v: %+v, not %+v", what, x, b.m.state())
	}
	if p.Rows() != b.m.rows() || p.Cols() != b.m.cols() || p.Gone() != b.m.p.Gone() || p.Base() != b.m.p.Base() || !slices.EqualFunc(p.All(), b.m.p.All(), isSameRow) {
		b.Fatalf("%v: base %d: %q, not %d: %q", what, p.Base(), lines(p.All()), b.m.p.Base(), lines(b.m.p.All()))
	}
	if l, want := p.Shifts(), b.m.p.Shifts(); !slices.Equal(l, want) {
		b.Fatalf("%v: shifts %v, not %v", what, l, want)
	}
	if l := b.s.Stops().List(); !slices.Equal(l, b.m.stops) || b.s.Stops().Cols() != b.m.cols() {
		b.Fatalf("%v: stops %v of %d columns, not %v of %d", what, l, b.s.Stops().Cols(), b.m.stops, b.m.cols())
	}
	isRight(b.T, b.s, what...)
}

// isRight holds what follows: where the cursor and the region always are, and that rows are right.
func isRight(t *testing.T, s *screen.Screen, what ...any) {
	t.Helper()
	x, rows, cols := s.State(), s.Page().Rows(), s.Page().Cols()
	if x.At.Row < 0 || x.At.Row >= rows || x.At.Col < 0 || x.At.Col > cols {
		t.Fatalf("%v: the cursor is at %v, of %d rows, %d columns", what, x.At, rows, cols)
	}
	if x.Top < 0 || x.Bottom >= rows || x.Bottom-x.Top+1 < min(2, rows) {
		t.Fatalf("%v: the region is %d to %d, of %d rows", what, x.Top, x.Bottom, rows)
	}
	for _, row := range s.Page().All() {
		if len(row.Cells) != cols || !cells.Right(row.Cells) {
			t.Fatalf("%v: a row isn't right: %v", what, row)
		}
	}
}

func isSameRow(a, b api.Row) bool {
	return a.Cont == b.Cont && slices.Equal(a.Cells, b.Cells)
}

func pos(row, col int) api.Pos {
	return api.Pos{Row: row, Col: col}
}

func prints(s *screen.Screen, text string) {
	for _, r := range text {
		s.Print(r)
	}
}

// write writes rows of the screen: of _ nothing; a + ahead: it is Cont. The cursor is at 0, 0 then, and nothing else is as if it had been used.
func write(s *screen.Screen, l ...string) *screen.Screen {
	for y, text := range l {
		x := 0
		for _, r := range text {
			switch r {
			case '+':
				s.Page().Wrap(y)
				continue
			case '|':
				s.Page().Pad(y)
			case '_':
			case wide:
				s.Page().Put(y, x, r, api.Attr{})
				x++
			default:
				s.Page().Put(y, x, r, api.Attr{})
			}
			x++
		}
	}
	return s
}

// line is a row as write takes it; what has a color, but nothing that was written, is told by a point.
func line(row api.Row) string {
	var s string
	if row.Cont {
		s = "+"
	}
	for _, c := range row.Cells {
		switch {
		case c.Half == api.Pad:
			s += "|"
		case c.Half == api.Right:
		case c.R == 0 && c.Attr != api.Attr{}:
			s += "."
		case c.R == 0:
			s += "_"
		default:
			s += utf.Put(c.R) + c.More
		}
	}
	return s
}

func lines(rows []api.Row) []string {
	var l []string
	for _, row := range rows {
		l = append(l, line(row))
	}
	return l
}

// shows holds a screen's cursor, and its document's rows, the first of which are the history's, against lines.
func shows(t *testing.T, what string, s *screen.Screen, at api.Pos, base int, l ...string) {
	t.Helper()
	got := lines(s.Page().All())
	if s.State().At != at || s.Page().Base() != base || !slices.Equal(got, l) {
		t.Errorf("%s: at %v, base %d: %q, not %v, %d: %q", what, s.State().At, s.Page().Base(), got, at, base, l)
	}
	isRight(t, s, what)
}

// isAt holds a screen's cursor against a place.
func isAt(t *testing.T, what string, s *screen.Screen, at api.Pos) {
	t.Helper()
	if s.State().At != at {
		t.Errorf("%s: at %v, not %v", what, s.State().At, at)
	}
}

// edge brings the cursor to the edge of a row.
func edge(s *screen.Screen, y int) {
	s.Move(y, math.MaxInt)
	s.Print('e')
}

// chance answers numbers that look like chance, the same ones in each run.
func chance() func(n int) int {
	seed := uint64(1)
	return func(n int) int {
		seed = seed*6364136223846793005 + 1442695040888963407
		return int(seed >> 33 % uint64(n))
	}
}

// What follows does the same to the screen and to what is told.

func (b both) set(o api.Opts) {
	b.s.Set(o)
	b.m.opts = o
}

func (b both) chars(c chars.State) {
	b.s.Chars(c)
	b.m.chars = c
}

func (b both) turn(l ...[]int) {
	b.s.Turn(l)
	b.m.turn(l)
}

func (b both) print(text string) {
	for _, r := range text {
		b.s.Print(r)
		b.m.print(r)
	}
}

func (b both) margins(top, bottom int) {
	b.s.Margins(top, bottom)
	b.m.margins(top, bottom)
}

func (b both) move(y, x int) {
	b.s.Move(y, x)
	b.m.move(y, x)
}

func (b both) stop(x int) {
	b.s.Stops().Set(x)
	if x >= 0 && x < b.m.cols() && !slices.Contains(b.m.stops, x) {
		b.m.stops = append(b.m.stops, x)
		slices.Sort(b.m.stops)
	}
}

func (b both) resize(rows, cols int, l ...api.Pos) {
	b.Helper()
	l1, e1 := b.s.Resize(rows, cols, l...)
	l2, e2 := b.m.resize(rows, cols, l)
	if e1 != e2 || !slices.Equal(l1, l2) {
		b.Fatalf("Resize(%d, %d, %v): %v, %v, not %v, %v", rows, cols, l, l1, e1, l2, e2)
	}
}

func (b both) crop(rows, cols int) {
	b.Helper()
	if e, want := b.s.Crop(rows, cols), b.m.crop(rows, cols); e != want {
		b.Fatalf("Crop(%d, %d): %v, not %v", rows, cols, e, want)
	}
}
