package page_test

import (
	"math"
	"reflect"
	"slices"
	"testing"

	"marquee/api"
	"marquee/cells"
	"marquee/page"
	"marquee/shift"
	"marquee/utf"
)

const (
	wide = 0x3042
	mark = 0x301
)

var (
	blue = api.Color{Kind: 1, N: 4}
	bold = api.Attr{Fore: api.Color{Kind: 1, N: 1}, Back: api.Color{Kind: 2, N: 0x102030}, Flags: api.Bold}
)

// far are numbers that are none of a page's rows or columns.
var far = []int{math.MinInt, -1, math.MaxInt}

// wrongSizes are rows and columns that may not be.
var wrongSizes = [][2]int{
	{0, 5}, {-1, 5}, {math.MinInt, 5}, {1001, 5}, {math.MaxInt, 5},
	{5, 1}, {5, 0}, {5, -1}, {5, math.MinInt}, {5, 1001}, {5, math.MaxInt}, {0, 0},
}

// both are a page, and what the document's words make of it.
type both struct {
	*testing.T
	p *page.Page
	m *told
}

func newPage(t *testing.T, rows, cols, lines int) *page.Page {
	t.Helper()
	p, e := page.New(rows, cols, lines)
	if e != api.OK || p == nil {
		t.Fatalf("New(%d, %d, %d): %v", rows, cols, lines, e)
	}
	return p
}

func newBoth(t *testing.T, rows, cols, lines int) both {
	t.Helper()
	return both{t, newPage(t, rows, cols, lines), newTold(rows, cols, lines)}
}

func isSameRow(a, b api.Row) bool {
	return a.Cont == b.Cont && slices.Equal(a.Cells, b.Cells)
}

func isSame(a, b []api.Row) bool {
	return slices.EqualFunc(a, b, isSameRow)
}

// check holds all that a page answers, but for its shifts, against what is told.
func (b both) check(what ...any) {
	b.Helper()
	p, m := b.p, b.m
	if p.Rows() != m.rows || p.Cols() != m.cols || p.Base() != m.base() || p.Gone() != m.gone || !isSame(p.All(), m.doc) {
		b.Fatalf("%v: %d rows, %d columns, base %d, %d gone:\n%q, not %d, %d, %d, %d:\n%q", what,
			p.Rows(), p.Cols(), p.Base(), p.Gone(), lines(p.All()), m.rows, m.cols, m.base(), m.gone, lines(m.doc))
	}
	if p.Base() > m.room {
		b.Fatalf("%v: %d rows of a history with room for %d", what, p.Base(), m.room)
	}
	for i, want := range m.doc {
		row, ok := p.Row(i)
		if !ok || !isSameRow(row, want) {
			b.Fatalf("%v: Row(%d): %v, %v, not %v", what, i, row, ok, want)
		}
		if len(row.Cells) != p.Cols() || !cells.Right(row.Cells) {
			b.Fatalf("%v: the row %d isn't right: %v", what, i, row)
		}
	}
	for _, i := range append(far, len(m.doc), len(m.doc)+1) {
		if row, ok := p.Row(i); ok || !reflect.DeepEqual(row, api.Row{}) {
			b.Fatalf("%v: Row(%d) of %d: %v, %v", what, i, len(m.doc), row, ok)
		}
	}
}

// checkShifts asks for the shifts, which wait no more then.
func (b both) checkShifts(what ...any) {
	b.Helper()
	if l := b.p.Shifts(); !slices.Equal(l, b.m.shifts) {
		b.Fatalf("%v: shifts %v, not %v", what, l, b.m.shifts)
	}
	if l := b.p.Shifts(); len(l) != 0 {
		b.Fatalf("%v: shifts that are told wait still: %v", what, l)
	}
	b.m.shifts = nil
}

func (b both) put(y, x int, r rune, a api.Attr) {
	b.p.Put(y, x, r, a)
	b.m.on(y, func(row []api.Cell) []api.Cell { return cells.Put(row, x, r, a) })
}

func (b both) mark(y, x int, r rune) {
	b.p.Mark(y, x, r)
	b.m.on(y, func(row []api.Cell) []api.Cell { return cells.Mark(row, x, r) })
}

func (b both) erase(y, from, to int, back api.Color) {
	b.p.Erase(y, from, to, back)
	b.m.erase(y, from, to, back)
}

func (b both) insertCells(y, x, n int, back api.Color) {
	b.p.InsertCells(y, x, n, back)
	b.m.on(y, func(row []api.Cell) []api.Cell { return cells.Insert(row, x, n, back) })
}

func (b both) deleteCells(y, x, n int, back api.Color) {
	b.p.DeleteCells(y, x, n, back)
	b.m.on(y, func(row []api.Cell) []api.Cell { return cells.Delete(row, x, n, back) })
}

func (b both) pad(y int) {
	b.p.Pad(y)
	b.m.on(y, cells.Close)
}

func (b both) wrap(y int) {
	b.p.Wrap(y)
	b.m.cont(b.m.base()+y, true)
}

func (b both) up(top, bottom, n int, back api.Color) {
	b.p.Up(top, bottom, n, back)
	b.m.up(top, bottom, n, back)
}

func (b both) down(top, bottom, n int, back api.Color) {
	b.p.Down(top, bottom, n, back)
	b.m.down(top, bottom, n, back)
}

func (b both) cut(top, bottom, n int, back api.Color) {
	b.p.Cut(top, bottom, n, back)
	b.m.cut(top, bottom, n, back)
}

func (b both) forget() {
	b.p.Forget()
	b.m.forget()
}

// resize answers where the cursor is then.
func (b both) resize(rows, cols int, at api.Pos, l ...api.Pos) api.Pos {
	b.Helper()
	at1, l1, e1 := b.p.Resize(rows, cols, at, l...)
	at2, l2, e2 := b.m.resize(rows, cols, at, l)
	if at1 != at2 || e1 != e2 || !slices.Equal(l1, l2) {
		b.Fatalf("Resize(%d, %d, %v, %v): %v, %v, %v, not %v, %v, %v", rows, cols, at, l, at1, l1, e1, at2, l2, e2)
	}
	if at1.Row < 0 || e1 == api.OK && at1.Row >= rows || at1.Col < 0 || at1.Col > max(cols, 0) {
		b.Fatalf("Resize(%d, %d, %v): %v isn't a place of the screen", rows, cols, at, at1)
	}
	return at1
}

func (b both) crop(rows, cols int) {
	b.Helper()
	if e, want := b.p.Crop(rows, cols), b.m.crop(rows, cols); e != want {
		b.Fatalf("Crop(%d, %d): %v, not %v", rows, cols, e, want)
	}
}

// write writes a row of the screen: of _ nothing, of | a Pad; it is Cont, if a + stands ahead.
func (b both) write(y int, s string) {
	x := 0
	for _, r := range s {
		switch r {
		case '+':
			b.wrap(y)
			continue
		case '|':
			b.pad(y)
		case '_':
		case wide:
			b.put(y, x, r, api.Attr{})
			x++
		default:
			b.put(y, x, r, api.Attr{})
		}
		x++
	}
}

// document is a page whose document has these rows, the last of which are the screen.
func document(t *testing.T, rows, cols, lines int, l ...string) both {
	t.Helper()
	b := newBoth(t, rows, cols, lines)
	for y, s := range l {
		if y >= rows {
			b.up(0, rows-1, 1, api.Color{})
			y = rows - 1
		}
		b.write(y, s)
	}
	b.check("document", l)
	b.checkShifts("document", l)
	return b
}

// line is a row as write takes it; blanks of a color are told by a point.
func line(row api.Row) string {
	var s string
	if row.Cont {
		s = "+"
	}
	for _, c := range row.Cells {
		switch {
		case c.Half == api.Pad:
			s += "|"
		case c.Half == api.Right:
		case c.R == 0 && c.Attr != api.Attr{}:
			s += "."
		case c.R == 0:
			s += "_"
		default:
			s += utf.Put(c.R) + c.More
		}
	}
	return s
}

func lines(rows []api.Row) []string {
	var l []string
	for _, row := range rows {
		l = append(l, line(row))
	}
	return l
}

// shows holds a page's rows against lines, the first of which are the history's.
func (b both) shows(base int, l ...string) {
	b.Helper()
	b.check(l)
	if b.p.Base() != base || !slices.Equal(lines(b.p.All()), l) {
		b.Errorf("base %d: %q, not %d: %q", b.p.Base(), lines(b.p.All()), base, l)
	}
}

func pos(row, col int) api.Pos {
	return api.Pos{Row: row, Col: col}
}

// chance answers numbers that look like chance, the same ones in each run.
func chance() func(n int) int {
	seed := uint64(1)
	return func(n int) int {
		seed = seed*6364136223846793005 + 1442695040888963407
		return int(seed >> 33 % uint64(n))
	}
}

func TestNew(t *testing.T) {
	for _, x := range wrongSizes {
		if p, e := page.New(x[0], x[1], 9); p != nil || e != api.ErrArg {
			t.Errorf("New(%d, %d, 9): %v, %v", x[0], x[1], p, e)
		}
	}
	for _, n := range []int{math.MinInt, -1, 100001, math.MaxInt} {
		if p, e := page.New(5, 5, n); p != nil || e != api.ErrArg {
			t.Errorf("New(5, 5, %d): %v, %v", n, p, e)
		}
	}
	for _, x := range [][3]int{{1, 2, 0}, {1, 2, 100000}, {2, 3, 1}, {1000, 2, 0}, {1, 1000, 0}, {24, 80, 1000}} {
		b := newBoth(t, x[0], x[1], x[2])
		b.check("New", x)
		b.checkShifts("New", x)
	}
	newPage(t, 1000, 1000, 100000)
}

func TestExample(t *testing.T) {
	p := newPage(t, 2, 2, 1)
	for range 3 {
		p.Up(0, 1, 1, api.Color{})
	}
	if p.Base() != 1 || p.Gone() != 2 {
		t.Errorf("base %d, %d gone", p.Base(), p.Gone())
	}
}

func TestCells(t *testing.T) {
	b := document(t, 3, 5, 2, "ab", "+cd", "+a\u3042b_", "+hijkl", "+m\u3042\u3042")
	numbers := append(far, 0, 1, 2, 3, 4, 5, 6)
	for y := range 5 {
		y-- // the rows ahead of the screen and behind it, too
		for _, x := range numbers {
			for _, r := range []rune{'z', wide, mark, 0, 7, -1, 0x110000} {
				b.put(y, x, r, bold)
				b.check("Put", y, x, r)
				b.mark(y, x, r)
				b.check("Mark", y, x, r)
			}
			for _, n := range numbers {
				b.insertCells(y, x, n, blue)
				b.check("InsertCells", y, x, n)
				b.write(y, "a\u3042")
				b.deleteCells(y, x, n, blue)
				b.check("DeleteCells", y, x, n)
				b.write(y, "_b\u3042")
			}
		}
	}
	b.checkShifts("cells")
}

func TestCellsOfARow(t *testing.T) {
	b := document(t, 2, 5, 1, "abc", "+xy", "+a\u3042b")
	b.put(1, 4, wide, api.Attr{}) // there is no room for it
	b.put(0, 1, 'z', api.Attr{})
	b.mark(0, 1, mark)
	b.mark(0, 4, mark)
	b.shows(1, "abc__", "+xz\u0301___", "+a\u3042b_")
	b.insertCells(0, 1, 2, blue)
	b.deleteCells(1, 1, 1, blue)
	b.shows(1, "abc__", "+x..z\u0301_", "+a_b_.")
	b.pad(0)
	b.put(1, 3, wide, api.Attr{})
	b.pad(1)
	b.shows(1, "abc__", "+x..z\u0301|", "+a_b_|")
	b.pad(2)
	b.wrap(2)
	b.pad(-1)
	b.wrap(-1)
	b.shows(1, "abc__", "+x..z\u0301|", "+a_b_|")
}

func TestWrap(t *testing.T) {
	b := document(t, 3, 2, 9, "a", "b", "c", "d")
	for _, y := range append(far, -1, 3) {
		b.wrap(y)
	}
	b.shows(1, "a_", "b_", "c_", "d_")
	b.wrap(1)
	b.shows(1, "a_", "b_", "+c_", "d_")
	b.wrap(0)
	b.wrap(2)
	b.shows(1, "a_", "+b_", "+c_", "+d_")
}

func TestErase(t *testing.T) {
	for _, x := range []struct {
		y, from, to int
		want        []string
	}{
		{0, 0, 3, []string{"+abc", "...", "ghi", "+jkl"}}, // all cells: neither goes on
		{0, -9, 9, []string{"+abc", "...", "ghi", "+jkl"}},
		{0, math.MinInt, math.MaxInt, []string{"+abc", "...", "ghi", "+jkl"}},
		{1, 1, 3, []string{"+abc", "+def", "+g..", "jkl"}}, // the last one
		{1, 2, math.MaxInt, []string{"+abc", "+def", "+gh.", "jkl"}},
		{2, 1, 3, []string{"+abc", "+def", "+ghi", "+j.."}}, // there is no row behind
		{2, 0, 3, []string{"+abc", "+def", "+ghi", "..."}},
		{1, 0, 2, []string{"+abc", "+def", "+..i", "+jkl"}}, // the first one alone
		{1, math.MinInt, 1, []string{"+abc", "+def", "+.hi", "+jkl"}},
		{1, 1, 2, []string{"+abc", "+def", "+g.i", "+jkl"}},
		{1, 3, 9, []string{"+abc", "+def", "+ghi", "+jkl"}}, // none
		{1, 9, 0, []string{"+abc", "+def", "+ghi", "+jkl"}},
		{1, 3, 0, []string{"+abc", "+def", "+ghi", "+jkl"}},
		{1, math.MaxInt, math.MinInt, []string{"+abc", "+def", "+ghi", "+jkl"}},
		{1, 0, 0, []string{"+abc", "+def", "+ghi", "+jkl"}},
		{-1, 0, 3, []string{"+abc", "+def", "+ghi", "+jkl"}}, // no row of the screen
		{3, 0, 3, []string{"+abc", "+def", "+ghi", "+jkl"}},
	} {
		b := document(t, 3, 3, 9, "+abc", "+def", "+ghi", "+jkl")
		b.erase(x.y, x.from, x.to, blue)
		b.shows(1, x.want...)
		b.checkShifts("Erase", x)
	}
}

func TestEraseIsTold(t *testing.T) {
	numbers := append(far, -2, 0, 1, 2, 3, 4, 5)
	for _, y := range append(far, 0, 1, 2, 3) {
		for _, from := range numbers {
			for _, to := range numbers {
				b := document(t, 3, 4, 1, "+x", "+a\u3042d", "+\u3042\u3042", "+abc|")
				b.erase(y, from, to, blue)
				b.check("Erase", y, from, to)
			}
		}
	}
}

func TestUp(t *testing.T) {
	b := document(t, 3, 2, 2, "a", "+b", "+c")
	b.up(0, 2, 1, blue)
	b.shows(1, "a_", "+b_", "+c_", "..")
	b.checkShifts("Up")
	b.write(2, "+d")
	b.up(0, 1, 1, api.Color{}) // what comes in, comes in between
	b.shows(2, "a_", "+b_", "+c_", "__", "d.")
	b.checkShifts("Up")
	b.wrap(1)
	b.wrap(2)
	b.up(1, 1, 1, blue)
	b.shows(2, "a_", "+b_", "+c_", "..", "d.")
	b.write(1, "+e")
	b.wrap(2)
	b.up(1, 2, 1, api.Color{}) // the row that is top then goes on from none
	b.shows(2, "a_", "+b_", "+c_", "d.", "__")
	b.checkShifts("Up")
	b.up(0, 2, 9, api.Color{})
	if b.p.Gone() != 3 {
		t.Errorf("%d gone", b.p.Gone())
	}
	b.shows(2, "d.", "__", "__", "__", "__")
	if l, want := b.p.Shifts(), []api.Shift{{Kind: api.Insert, At: 5, N: 1}, {Kind: api.Evict, N: 1}}; !slices.Equal(l, slices.Repeat(want, 3)) {
		t.Errorf("shifts %v", l)
	}
}

func TestUpWithoutRoom(t *testing.T) {
	b := document(t, 2, 2, 0, "a", "+b")
	b.up(0, 1, 1, blue)
	b.shows(0, "+b_", "..")
	if l := b.p.Shifts(); !slices.Equal(l, []api.Shift{{Kind: api.Insert, At: 2, N: 1}, {Kind: api.Evict, N: 1}}) {
		t.Errorf("shifts %v", l)
	}
	b.up(0, 0, 1, api.Color{})
	b.shows(0, "__", "..")
	if l := b.p.Shifts(); !slices.Equal(l, []api.Shift{{Kind: api.Insert, At: 1, N: 1}, {Kind: api.Evict, N: 1}}) || b.p.Gone() != 2 {
		t.Errorf("shifts %v, %d gone", l, b.p.Gone())
	}
}

func TestDown(t *testing.T) {
	b := document(t, 4, 2, 9, "a", "+b", "+c", "+d", "+e")
	b.down(0, 2, 1, blue)
	b.shows(1, "a_", "..", "b_", "+c_", "e_")
	if l := b.p.Shifts(); !slices.Equal(l, []api.Shift{{Kind: api.Delete, At: 3, N: 1}, {Kind: api.Insert, At: 1, N: 1}}) {
		t.Errorf("shifts %v", l)
	}
	b = document(t, 4, 2, 9, "+a", "+b", "+c", "+d")
	b.down(1, 1, 5, api.Color{})
	b.shows(0, "+a_", "__", "c_", "+d_")
	b.down(2, 3, 5, blue)
	b.shows(0, "+a_", "__", "..", "..")
}

func TestCut(t *testing.T) {
	b := document(t, 4, 2, 9, "+a", "+b", "+c", "+d", "+e")
	b.cut(0, 2, 1, blue) // from the first row on, too, none comes into the history
	b.shows(1, "+a_", "c_", "+d_", "..", "e_")
	if l := b.p.Shifts(); !slices.Equal(l, []api.Shift{{Kind: api.Delete, At: 1, N: 1}, {Kind: api.Insert, At: 3, N: 1}}) {
		t.Errorf("shifts %v", l)
	}
	b.cut(0, 3, 9, api.Color{})
	b.shows(1, "+a_", "__", "__", "__", "__")
	if l := b.p.Shifts(); len(l) != 8 || b.p.Gone() != 0 {
		t.Errorf("shifts %v, %d gone", l, b.p.Gone())
	}
}

// TestScrollsAreTold goes through all regions of small screens, and what is none.
func TestScrollsAreTold(t *testing.T) {
	for i, l := range [][]string{{"+a"}, {"+a", "+b"}, {"+a", "+b", "+c"}, {"a", "+b", "c", "+d"}, {"+a", "+b", "+c", "+d", "+e"}} {
		for _, room := range []int{0, 1, 2, 9} {
			rows := max(i, 1)
			numbers := append(far, rows)
			for y := range rows {
				numbers = append(numbers, y)
			}
			for _, top := range numbers {
				for _, bottom := range numbers {
					for _, n := range []int{math.MinInt, -1, 0, 1, 2, rows, rows + 1, math.MaxInt} {
						for k, do := range []func(b both){
							func(b both) { b.up(top, bottom, n, blue) },
							func(b both) { b.down(top, bottom, n, blue) },
							func(b both) { b.cut(top, bottom, n, blue) },
						} {
							b := document(t, rows, 2, room, l...)
							do(b)
							b.check(k, top, bottom, n)
							b.checkShifts(k, top, bottom, n)
						}
					}
				}
			}
		}
	}
}

func TestForget(t *testing.T) {
	b := document(t, 2, 2, 9, "a", "+b", "+c", "+d")
	b.forget()
	b.shows(0, "c_", "+d_")
	if l := b.p.Shifts(); !slices.Equal(l, []api.Shift{{Kind: api.Evict, N: 2}}) || b.p.Gone() != 2 {
		t.Errorf("shifts %v, %d gone", l, b.p.Gone())
	}
	b.m.shifts = nil
	b.wrap(0)
	b.forget() // there is no history: nothing is done
	b.shows(0, "+c_", "+d_")
	b.checkShifts("Forget")
	b.up(0, 1, 1, api.Color{})
	b.forget()
	b.shows(0, "d_", "__")
	if b.p.Gone() != 3 {
		t.Errorf("%d gone", b.p.Gone())
	}
}

func TestShifts(t *testing.T) {
	b := document(t, 2, 2, 1, "a", "b")
	b.up(0, 1, 1, blue)
	b.put(0, 0, 'z', bold)
	b.erase(0, 0, 2, blue)
	b.down(0, 1, 1, blue)
	b.cut(1, 1, 1, blue)
	b.up(0, 1, 1, blue)
	b.forget()
	want := []api.Shift{
		{Kind: api.Insert, At: 2, N: 1},
		{Kind: api.Delete, At: 2, N: 1}, {Kind: api.Insert, At: 1, N: 1},
		{Kind: api.Delete, At: 2, N: 1}, {Kind: api.Insert, At: 2, N: 1},
		{Kind: api.Insert, At: 3, N: 1}, {Kind: api.Evict, N: 1},
		{Kind: api.Evict, N: 1},
	}
	if l := b.p.Shifts(); !slices.Equal(l, want) {
		t.Errorf("shifts %v, not %v", l, want)
	}
	b.m.shifts = nil
	b.checkShifts("again")
}

func TestShiftsWaitTillTheyAreTold(t *testing.T) {
	waiting := []api.Shift{{Kind: api.Delete, At: 1, N: 1}, {Kind: api.Insert, At: 0, N: 1}}
	for i, x := range []struct {
		do   func(p *page.Page)
		want []api.Shift
	}{
		{func(p *page.Page) { p.Resize(2, 2, pos(1, 0)) }, nil},
		{func(p *page.Page) { p.Resize(1, 2, pos(1, 0)) }, []api.Shift{{Kind: api.Evict, N: 1}}},
		{func(p *page.Page) { p.Crop(2, 2) }, nil},
		{func(p *page.Page) { p.Resize(0, 2, pos(1, 0)) }, waiting}, // an error changes nothing
		{func(p *page.Page) { p.Crop(2, 1) }, waiting},
		{func(p *page.Page) { p.Up(1, 0, 1, blue) }, waiting},
	} {
		p := newPage(t, 2, 2, 0)
		p.Down(0, 1, 1, blue)
		p.Put(0, 0, 'a', bold)
		x.do(p)
		if l := p.Shifts(); !slices.Equal(l, x.want) {
			t.Errorf("%d: shifts %v, not %v", i, l, x.want)
		}
	}
}

// TestShiftsLeadToRows holds the shifts against the rows themselves: where a shift says that a row is, it is.
func TestShiftsLeadToRows(t *testing.T) {
	pick := chance()
	p := newPage(t, 5, 2, 3)
	next := rune(0x1e00)
	for range 3000 {
		for y := range p.Rows() {
			if row, _ := p.Row(p.Base() + y); row.Cells[0].R == 0 {
				p.Put(y, 0, next, api.Attr{}) // a scalar that no other row has
				next = 0x1e00 + (next+1)%256
			}
		}
		was := p.All()
		top, bottom, n := pick(6), pick(6), pick(7)
		switch pick(10) {
		case 0, 1, 2:
			p.Up(0, bottom, n, blue)
		case 3, 4:
			p.Up(top, bottom, n, blue)
		case 5, 6:
			p.Down(top, bottom, n, blue)
		case 7, 8:
			p.Cut(top, bottom, n, blue)
		default:
			p.Forget()
		}
		l := p.Shifts()
		for i, row := range was {
			same := func(x api.Row) bool { return x.Cells[0].R == row.Cells[0].R }
			at, is := shift.All(pos(i, 1), l...), slices.IndexFunc(p.All(), same)
			if is >= 0 && at != pos(is, 1) || is < 0 && at.Col != 0 {
				t.Fatalf("the row %d is at %d, and not at %v: %v", i, is, at, l)
			}
		}
	}
}

// TestAnySteps does whatever may be done, right and wrong.
func TestAnySteps(t *testing.T) {
	pick := chance()
	for _, room := range []int{0, 3, 20} {
		b := newBoth(t, 4, 6, room)
		for i := range 6000 {
			step(b, pick)
			b.check(room, i)
			if pick(3) == 0 {
				b.checkShifts(room, i)
			}
		}
	}
}

func step(b both, pick func(int) int) {
	b.Helper()
	y, x, n, z := pick(9)-1, pick(10)-1, pick(6)-1, pick(11)-2
	back := []api.Color{{}, blue}[pick(2)]
	switch pick(24) {
	case 0, 1, 2, 3, 4:
		b.put(y, x, []rune{'a', 'b', 'c', wide, mark}[pick(5)], []api.Attr{{}, bold}[pick(2)])
	case 5, 6:
		b.mark(y, x, []rune{mark, 0xfe0f, 'a'}[pick(3)])
	case 7:
		b.erase(y, x, z, back)
	case 8:
		b.insertCells(y, x, n, back)
	case 9:
		b.deleteCells(y, x, n, back)
	case 10, 11:
		b.pad(y)
	case 12, 13, 14:
		b.wrap(y)
	case 15, 16:
		b.up(0, y, n, back)
	case 17:
		b.up(y, x, n, back)
	case 18:
		b.down(y, x, n, back)
	case 19:
		b.cut(y, x, n, back)
	case 20, 21:
		b.resize(y, z, pos(x, n), pos(z, x), pos(y, z), pos(y*z, n))
	case 22:
		if pick(3) == 0 {
			b.crop(y, z)
		}
	default:
		if pick(5) == 0 {
			b.forget()
		}
	}
}

func TestManyLines(t *testing.T) {
	p := newPage(t, 2, 2, api.MaxLines)
	for i := range api.MaxLines + 5 {
		p.Put(0, 0, rune('a'+i%26), api.Attr{})
		p.Up(0, 1, 1, api.Color{})
		p.Put(1, 1, 'z', api.Attr{})
	}
	if row, ok := p.Row(0); !ok || row.Cells[0].R != 'a'+5 || p.Base() != api.MaxLines || p.Gone() != 5 {
		t.Errorf("base %d, %d gone, the eldest %v", p.Base(), p.Gone(), row)
	}
	if _, l, e := p.Resize(1000, 3, pos(0, 0), pos(api.MaxLines-1, 1)); e != api.OK || p.Base() != api.MaxLines+2-1000 || l[0] != pos(api.MaxLines-1, 1) {
		t.Errorf("Resize: %v, base %d, %v", e, p.Base(), l)
	}
}

func TestNilPage(t *testing.T) {
	var p *page.Page
	for _, n := range append(far, 0, 1, 5) {
		p.Put(n, n, 'a', bold)
		p.Mark(n, n, mark)
		p.Erase(n, n, n, blue)
		p.InsertCells(n, n, n, blue)
		p.DeleteCells(n, n, n, blue)
		p.Pad(n)
		p.Wrap(n)
		p.Up(n, n, n, blue)
		p.Down(n, n, n, blue)
		p.Cut(n, n, n, blue)
		if row, ok := p.Row(n); ok || !reflect.DeepEqual(row, api.Row{}) {
			t.Errorf("Row(%d): %v, %v", n, row, ok)
		}
	}
	p.Forget()
	if p.Rows() != 0 || p.Cols() != 0 || p.Base() != 0 || p.Gone() != 0 || len(p.All()) != 0 || len(p.Shifts()) != 0 {
		t.Error("Rows, Cols, Base, Gone, All, Shifts")
	}
	for _, x := range append(wrongSizes, [2]int{5, 5}, [2]int{1, 2}) {
		if at, l, e := p.Resize(x[0], x[1], pos(1, 1), pos(2, 2)); at != (api.Pos{}) || len(l) != 0 || e != api.ErrArg {
			t.Errorf("Resize(%v): %v, %v, %v", x, at, l, e)
		}
		if e := p.Crop(x[0], x[1]); e != api.ErrArg {
			t.Errorf("Crop(%v): %v", x, e)
		}
	}
}

func TestNothingIsShared(t *testing.T) {
	b := document(t, 2, 3, 1, "abc", "+def", "+ghi")
	smear := func(row api.Row) {
		for i := range row.Cells {
			row.Cells[i].R = 'x'
		}
	}
	was := b.p.All()
	for i := range b.p.All() {
		row, _ := b.p.Row(i)
		smear(row)
		smear(b.p.All()[i])
	}
	b.shows(1, "abc", "+def", "+ghi")
	b.put(0, 0, 'z', bold)
	b.up(0, 1, 1, blue)
	b.put(0, 1, 'z', bold)
	if !slices.Equal(lines(was), []string{"abc", "+def", "+ghi"}) {
		t.Errorf("later steps changed an answer: %q", lines(was))
	}
	l := b.p.Shifts()
	b.down(0, 1, 1, blue)
	if !slices.Equal(l, []api.Shift{{Kind: api.Insert, At: 3, N: 1}, {Kind: api.Evict, N: 1}}) {
		t.Errorf("later steps changed an answer: %v", l)
	}
	other := newPage(t, 2, 3, 1)
	other.Put(0, 0, 'o', bold)
	b.check("another one")
}
