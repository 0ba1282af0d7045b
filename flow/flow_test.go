package flow_test

import (
	"math"
	"slices"
	"testing"

	"marquee/api"
	"marquee/cells"
	"marquee/flow"
)

const wide = 0x3042

var (
	bold = api.Attr{Fore: api.Color{Kind: 1, N: 1}, Back: api.Color{Kind: 2, N: 0x102030}, Flags: api.Bold}
	pad  = api.Cell{Half: api.Pad}
	left = api.Cell{R: wide, More: "\u0301", Half: api.Left, Attr: bold}
)

// sorts are cells of all sorts, among them such as no right row has.
var sorts = []api.Cell{
	{},
	{R: 'a', More: "\u0301"},
	{Attr: bold},
	{R: wide, Half: api.Left},
	{R: wide, Half: api.Right},
	{R: wide, Half: api.Left, Attr: bold},
	pad,
	{R: 'p', More: "x", Half: api.Pad, Attr: bold},
	{Half: api.Left},
	{Half: api.Right},
	{R: 'h', Half: 4, Attr: bold},
}

// wrongWidths are numbers of columns that may not be.
var wrongWidths = []int{math.MinInt, -1, 0, 1, 1001, math.MaxInt}

// text is a flow: _ is a cell in which nothing was written, | a Pad.
func text(s string) []api.Cell {
	var l []api.Cell
	for _, r := range s {
		switch r {
		case '_':
			l = append(l, api.Cell{})
		case '|':
			l = append(l, pad)
		case wide:
			l = append(l, api.Cell{R: r, Half: api.Left}, api.Cell{R: r, Half: api.Right})
		default:
			l = append(l, api.Cell{R: r})
		}
	}
	return l
}

// rows are some rows; one that goes on has a + ahead of it.
func rows(l ...string) []api.Row {
	var all []api.Row
	for _, s := range l {
		if s != "" && s[0] == '+' {
			all = append(all, api.Row{Cells: text(s[1:]), Cont: true})
		} else {
			all = append(all, api.Row{Cells: text(s)})
		}
	}
	return all
}

func pos(row, col int) api.Pos {
	return api.Pos{Row: row, Col: col}
}

func isSameRow(a, b api.Row) bool {
	return a.Cont == b.Cont && slices.Equal(a.Cells, b.Cells)
}

func isSame(a, b []api.Row) bool {
	return slices.EqualFunc(a, b, isSameRow)
}

// eachRow goes through all rows of up to so many cells of all sorts.
func eachRow(most int, do func(row []api.Cell)) {
	var grow func(row []api.Cell)
	grow = func(row []api.Cell) {
		do(row)
		if len(row) == most {
			return
		}
		for _, c := range sorts {
			grow(append(slices.Clone(row), c))
		}
	}
	grow(nil)
}

// eachCut goes through all ways to cut cells into rows, that go on or don't, with rows that are empty among them.
func eachCut(l []api.Cell, do func(rows []api.Row)) {
	for cuts := range 1 << len(l) {
		for conts := range 8 {
			all := []api.Row{{Cont: conts&1 == 1}}
			for i, c := range l {
				last := &all[len(all)-1]
				last.Cells = append(last.Cells, c)
				if cuts>>i&1 == 1 {
					all = append(all, api.Row{Cont: conts>>(len(all)%3)&1 == 1})
				}
			}
			do(all)
		}
	}
}

// chances are numbers that look like chance, but are the same in each run.
func chances() func(n int) int {
	seed := uint64(1)
	return func(n int) int {
		seed = seed*6364136223846793005 + 1442695040888963407
		return int(seed >> 33 % uint64(n))
	}
}

// anyRows are rows of cells of all sorts.
func anyRows(chance func(int) int, most int) []api.Row {
	l := make([]api.Row, chance(most))
	for i := range l {
		l[i].Cont = chance(3) > 0
		for range chance(7) {
			if chance(3) == 0 {
				l[i].Cells = append(l[i].Cells, text("\u3042")...)
			} else {
				l[i].Cells = append(l[i].Cells, sorts[chance(len(sorts))])
			}
		}
	}
	return l
}

func checkSplit(t *testing.T, l []api.Cell, cols int, want []api.Row) {
	t.Helper()
	if got := flow.Split(l, cols); !isSame(got, want) {
		t.Fatalf("Split(%v, %d):\n%v, not\n%v", l, cols, got, want)
	}
}

func checkReflow(t *testing.T, l []api.Row, cols int, at []api.Pos, want []api.Row, places []api.Pos) {
	t.Helper()
	got, is := flow.Reflow(l, cols, at...)
	if !isSame(got, want) {
		t.Fatalf("Reflow(%v, %d):\n%v, not\n%v", l, cols, got, want)
	}
	if !slices.Equal(is, places) {
		t.Fatalf("Reflow(%v, %d, %v): %v, not %v", l, cols, at, is, places)
	}
}

func TestExample(t *testing.T) {
	l := flow.Split(text("ab\u3042c"), 3)
	if !isSame(l, rows("ab|", "+\u3042c")) {
		t.Errorf("Split: %v", l)
	}
}

func TestLines(t *testing.T) {
	for _, x := range []struct {
		l    []api.Row
		want [][2]int
	}{
		{nil, nil},
		{rows("a"), [][2]int{{0, 1}}},
		{rows("+a"), [][2]int{{0, 1}}},
		{rows("a", "b"), [][2]int{{0, 1}, {1, 2}}},
		{rows("a", "+b"), [][2]int{{0, 2}}},
		{rows("+a", "+b", "c"), [][2]int{{0, 2}, {2, 3}}},
		{rows("", "", "+", "+", ""), [][2]int{{0, 1}, {1, 4}, {4, 5}}},
	} {
		if got := flow.Lines(x.l); !slices.Equal(got, x.want) {
			t.Errorf("Lines(%v): %v, not %v", x.l, got, x.want)
		}
	}
	for n := range 11 {
		for conts := range 1 << n {
			l := make([]api.Row, n)
			for i := range l {
				l[i].Cont = conts>>i&1 == 1
			}
			if got := flow.Lines(l); !slices.Equal(got, toldLines(l)) {
				t.Fatalf("Lines(%v): %v", l, got)
			}
		}
	}
}

func TestFlow(t *testing.T) {
	right := left
	right.Half = api.Right
	for _, x := range []struct {
		l    []api.Row
		want []api.Cell
	}{
		{nil, nil},
		{rows(""), nil},
		{rows("___", "+|"), nil},
		{rows("ab", "+c"), text("abc")},
		{rows("ab", "c"), text("abc")}, // whether they are of one line or not
		{rows("a_", "+_b__", "+__"), text("a__b")},
		{rows("ab|", "+\u3042c"), text("ab\u3042c")},
		{rows("|a|b|", "|"), text("ab")},
		{[]api.Row{{Cells: []api.Cell{left}}, {Cells: []api.Cell{right}}}, []api.Cell{left, right}}, // mended as one
		{[]api.Row{{Cells: []api.Cell{left, pad}}, {Cells: []api.Cell{pad, right}}}, []api.Cell{left, right}},
		{[]api.Row{{Cells: []api.Cell{right, left}}, {Cells: text("a")}}, []api.Cell{{Attr: bold}, {Attr: bold}, {R: 'a'}}},
		{[]api.Row{{Cells: []api.Cell{{R: 'a'}, left}}}, text("a")}, // mended ahead of what is empty being left out
		{[]api.Row{{Cells: []api.Cell{{R: 'a'}, {Attr: bold}, {R: 'p', Half: api.Pad}}}}, text("a")},
		{[]api.Row{{Cells: []api.Cell{{R: 'a'}, {More: "x"}, {R: 'b'}, {More: "x"}}}}, []api.Cell{{R: 'a'}, {More: "x"}, {R: 'b'}}},
	} {
		if got := flow.Flow(x.l); !slices.Equal(got, x.want) {
			t.Errorf("Flow(%v): %v, not %v", x.l, got, x.want)
		}
	}
	eachRow(3, func(row []api.Cell) {
		eachCut(row, func(l []api.Row) {
			if got := flow.Flow(l); !slices.Equal(got, toldFlow(l)) {
				t.Fatalf("Flow(%v): %v, not %v", l, got, toldFlow(l))
			}
		})
	})
}

func TestSplit(t *testing.T) {
	for _, x := range []struct {
		s    string
		cols int
		want []api.Row
	}{
		{"", 2, rows("__")},
		{"", 4, rows("____")},
		{"a", 2, rows("a_")},
		{"ab", 2, rows("ab")},
		{"abc", 2, rows("ab", "+c_")},
		{"abcd", 2, rows("ab", "+cd")},
		{"____", 2, rows("__", "+__")}, // what is empty at its end stays
		{"a___", 3, rows("a__", "+___")},
		{"\u3042\u3042", 2, rows("\u3042", "+\u3042")},
		{"a\u3042\u3042b", 2, rows("a|", "+\u3042", "+\u3042", "+b_")},
		{"\u3042\u3042", 3, rows("\u3042|", "+\u3042_")},
		{"a\u3042\u3042", 3, rows("a\u3042", "+\u3042_")},
		{"ab\u3042", 3, rows("ab|", "+\u3042_")},
		{"abcde\u3042", 3, rows("abc", "+de|", "+\u3042_")},
		{"a|b|", 3, rows("a_b", "+___")}, // a Pad of the flow isn't one of a row
		{"ab|", 3, rows("ab_")},
	} {
		checkSplit(t, text(x.s), x.cols, x.want)
	}
}

func TestSplitOfAnyCells(t *testing.T) {
	right := left
	right.Half = api.Right
	gone := api.Cell{Attr: bold}
	for _, x := range []struct {
		l, want []api.Cell
	}{
		{[]api.Cell{{R: 'p', More: "x", Half: api.Pad, Attr: bold}}, []api.Cell{gone, {}, {}}}, // its attribute as it was
		{[]api.Cell{left, right}, []api.Cell{left, right, {}}},
		{[]api.Cell{left}, []api.Cell{gone, {}, {}}},
		{[]api.Cell{{R: 'a'}, {R: 'b'}, left}, []api.Cell{{R: 'a'}, {R: 'b'}, gone}}, // it is mended, so nothing is padded
		{[]api.Cell{right, left, pad}, []api.Cell{gone, gone, {}}},
		{[]api.Cell{{R: 'h', More: "x", Half: -1, Attr: bold}, {More: "y"}}, []api.Cell{gone, {More: "y"}, {}}},
	} {
		checkSplit(t, x.l, 3, []api.Row{{Cells: x.want}})
	}
	checkSplit(t, []api.Cell{{R: 'a'}, {R: 'b'}, left, right}, 3, []api.Row{
		{Cells: []api.Cell{{R: 'a'}, {R: 'b'}, pad}}, // all else of it zero
		{Cells: []api.Cell{left, right, {}}, Cont: true},
	})
	eachRow(4, func(l []api.Cell) {
		for cols := 2; cols <= 5; cols++ {
			checkSplit(t, l, cols, toldSplit(l, cols))
		}
	})
}

func TestSplitOfAnyWidth(t *testing.T) {
	for _, l := range [][]api.Cell{nil, text("ab\u3042c"), text("|")} {
		for _, cols := range wrongWidths {
			if got := flow.Split(l, cols); len(got) != 0 {
				t.Errorf("Split(%v, %d): %v", l, cols, got)
			}
		}
	}
	chance := chances()
	var l []api.Cell
	for range 5000 {
		l = append(l, text([]string{"a", "_", "\u3042"}[chance(3)])...)
	}
	for _, cols := range []int{2, 3, 80, 999, 1000} {
		checkSplit(t, l, cols, toldSplit(l, cols))
	}
}

// numbers are rows, columns and offsets, up to far from what there is.
var numbers = []int{math.MinInt, -2, -1, 0, 1, 2, 3, 4, 5, 6, 7, 8, 9, math.MaxInt - 1, math.MaxInt}

func TestOffset(t *testing.T) {
	l := rows("ab|", "+\u3042c", "", "|", "|d|")
	for _, x := range []struct {
		at   api.Pos
		want int
	}{
		{pos(0, 0), 0}, {pos(0, 1), 1}, {pos(0, 2), 2}, {pos(0, 3), 2}, {pos(0, math.MaxInt), 2}, {pos(0, -1), 0}, {pos(0, math.MinInt), 0},
		{pos(1, 0), 2}, {pos(1, 2), 4}, {pos(1, 3), 5}, {pos(1, 4), 5}, {pos(1, -5), 2}, {pos(1, math.MaxInt), 5},
		{pos(2, 0), 5}, {pos(2, 9), 5}, {pos(3, 1), 5}, {pos(4, 0), 5}, {pos(4, 1), 6}, {pos(4, 3), 6},
		{pos(-1, 2), 0}, {pos(math.MinInt, math.MaxInt), 0},
		{pos(5, 0), 6}, {pos(5, math.MinInt), 6}, {pos(math.MaxInt, 0), 6},
	} {
		if got := flow.Offset(l, x.at); got != x.want {
			t.Errorf("Offset(%v): %d, not %d", x.at, got, x.want)
		}
	}
	for _, row := range numbers {
		if n := flow.Offset(nil, pos(row, 3)); n != 0 {
			t.Errorf("Offset of row %d of no rows: %d", row, n)
		}
	}
}

func TestPlace(t *testing.T) {
	l := rows("", "ab|", "+\u3042c", "", "|", "|d|")
	for _, x := range []struct {
		off  int
		want api.Pos
	}{
		{0, pos(1, 0)}, {1, pos(1, 1)}, {2, pos(2, 0)}, {3, pos(2, 1)}, {4, pos(2, 2)}, {5, pos(5, 0)},
		{6, pos(5, 1)}, {7, pos(5, 1)}, {math.MaxInt, pos(5, 1)}, {-1, pos(1, 0)}, {math.MinInt, pos(1, 0)},
	} {
		if got := flow.Place(l, x.off); got != x.want {
			t.Errorf("Place(%d): %v, not %v", x.off, got, x.want)
		}
	}
	for _, x := range []struct {
		l    []api.Row
		off  int
		want api.Pos
	}{
		{nil, 0, pos(0, 0)}, {nil, 5, pos(0, 0)}, {nil, -5, pos(0, 0)}, {nil, math.MaxInt, pos(0, 0)},
		{rows(""), 0, pos(0, 0)}, {rows("", "+|", ""), 0, pos(2, 0)}, {rows("", "|", ""), 9, pos(2, 0)},
		{rows("ab", ""), 1, pos(0, 1)}, {rows("ab", ""), 2, pos(1, 0)}, {rows("ab", ""), 3, pos(1, 0)},
		{rows("ab"), 2, pos(0, 2)}, {rows("ab"), 3, pos(0, 2)},
	} {
		if got := flow.Place(x.l, x.off); got != x.want {
			t.Errorf("Place(%v, %d): %v, not %v", x.l, x.off, got, x.want)
		}
	}
}

func TestOffsetAndPlaceAreTold(t *testing.T) {
	eachRow(3, func(row []api.Cell) {
		eachCut(row, func(l []api.Row) {
			for _, n := range numbers {
				if got := flow.Place(l, n); got != toldPlace(l, n) {
					t.Fatalf("Place(%v, %d): %v, not %v", l, n, got, toldPlace(l, n))
				}
			}
			for at := range 25 {
				p := pos(at/5-1, at%5-1)
				if got := flow.Offset(l, p); got != toldOffset(l, p) {
					t.Fatalf("Offset(%v, %v): %d, not %d", l, p, got, toldOffset(l, p))
				}
			}
		})
	})
}

func TestReflow(t *testing.T) {
	l := rows("ab|", "+\u3042c", "xyz", "", "de_", "+___", "+f__")
	at := []api.Pos{
		pos(0, 0), pos(0, 2), pos(0, 3), pos(1, 0), pos(1, 3), pos(2, 3), pos(3, 0), pos(3, 7), pos(4, 2), pos(5, 0), pos(6, 1), pos(6, 3),
		pos(7, 4), pos(math.MaxInt, 0), pos(-1, 4), pos(math.MinInt, math.MaxInt), pos(0, math.MinInt), pos(6, math.MaxInt),
	}
	checkReflow(t, l, 4, at, rows("ab\u3042", "+c___", "xyz_", "____", "de__", "+__f_"), []api.Pos{
		pos(0, 0), pos(0, 2), pos(0, 2), pos(0, 2), pos(1, 1), pos(2, 3), pos(3, 0), pos(3, 0), pos(4, 2), pos(4, 3), pos(5, 3), pos(5, 4),
		pos(6, 0), pos(6, 0), pos(0, 0), pos(0, 0), pos(0, 0), pos(5, 4),
	})
	checkReflow(t, l, 2, at[:12], rows("ab", "+\u3042", "+c_", "xy", "+z_", "__", "de", "+__", "+__", "+f_"), []api.Pos{
		pos(0, 0), pos(1, 0), pos(1, 0), pos(1, 0), pos(2, 1), pos(4, 1), pos(5, 0), pos(5, 0), pos(7, 0), pos(7, 1), pos(9, 1), pos(9, 2),
	})
}

func TestReflowOfFewRows(t *testing.T) {
	checkReflow(t, nil, 5, []api.Pos{pos(0, 0), pos(0, 3), pos(-1, 3), pos(4, 3)}, nil, make([]api.Pos, 4))
	checkReflow(t, rows("a"), 3, nil, rows("a__"), nil)
	checkReflow(t, rows("", "|"), 3, []api.Pos{pos(0, 2), pos(1, 2), pos(2, 2)}, rows("___", "___"), []api.Pos{pos(0, 0), pos(1, 0), pos(2, 0)})
	checkReflow(t, rows("+a", "+b"), 2, []api.Pos{pos(1, 1)}, rows("ab"), []api.Pos{pos(0, 2)}) // the first row begins a line
	// What was behind the last scalar of a line is none of its flow: a place there is brought to the end of its last row.
	checkReflow(t, rows("ab______"), 3, []api.Pos{pos(0, 1), pos(0, 3), pos(0, 7)}, rows("ab_"), []api.Pos{pos(0, 1), pos(0, 3), pos(0, 3)})
	checkReflow(t, rows("ab", "+c|"), 2, []api.Pos{pos(1, 1), pos(0, 2)}, rows("ab", "+c_"), []api.Pos{pos(1, 1), pos(1, 0)})
	right := left
	right.Half = api.Right
	halves := []api.Row{{Cells: []api.Cell{left}}, {Cells: []api.Cell{right}, Cont: true}}
	checkReflow(t, halves, 2, []api.Pos{pos(1, 0)}, []api.Row{{Cells: []api.Cell{left, right}}}, []api.Pos{pos(0, 1)})
}

func TestReflowToWidthsThatMayNotBe(t *testing.T) {
	l := []api.Row{{Cells: []api.Cell{left, pad, {R: 'h', Half: 9}}, Cont: true}, {}, {Cells: text("ab"), Cont: true}}
	at := []api.Pos{pos(0, 1), pos(-7, 3), pos(9, math.MaxInt)}
	for _, cols := range wrongWidths {
		checkReflow(t, l, cols, at, l, at)
		checkReflow(t, nil, cols, at, nil, at)
		checkReflow(t, l, cols, nil, l, nil)
	}
	for _, cols := range []int{2, 1000} {
		if got, _ := flow.Reflow(rows("a"), cols); len(got) != 1 || len(got[0].Cells) != cols {
			t.Errorf("Reflow to %d: %v", cols, got)
		}
	}
}

// places are all places of some rows, and some around them.
func places(l []api.Row) []api.Pos {
	var all []api.Pos
	for row := -1; row <= len(l)+1; row++ {
		for col := -1; col <= 8; col++ {
			all = append(all, pos(row, col))
		}
	}
	return all
}

func TestReflowIsTold(t *testing.T) {
	chance := chances()
	for range 4000 {
		l := anyRows(chance, 9)
		at := places(l)
		for i := range at { // in any order
			k := chance(i + 1)
			at[i], at[k] = at[k], at[i]
		}
		cols := 2 + chance(8)
		want, is := toldReflow(l, cols, at)
		checkReflow(t, l, cols, at, want, is)
	}
}

// What follows of the promises.

func TestFlowOfWhatIsSplit(t *testing.T) {
	isPad := func(c api.Cell) bool { return c.Half == api.Pad }
	eachRow(4, func(l []api.Cell) {
		l = cells.Mend(l)
		if slices.ContainsFunc(l, isPad) {
			return
		}
		for cols := 2; cols <= 5; cols++ {
			split := flow.Split(l, cols)
			if got := flow.Flow(split); !slices.Equal(got, l[:cells.Used(l)]) {
				t.Fatalf("Flow(Split(%v, %d)): %v", l, cols, got)
			}
			if got := flow.Lines(split); len(got) != 1 {
				t.Fatalf("Split(%v, %d) has lines %v", l, cols, got)
			}
		}
	})
}

func TestReflowedTwice(t *testing.T) {
	chance := chances()
	for range 2000 {
		l := anyRows(chance, 9)
		for first := 2; first < 9; first++ {
			once, _ := flow.Reflow(l, first)
			cols := 2 + chance(8)
			want, _ := flow.Reflow(l, cols)
			checkReflow(t, once, cols, nil, want, nil)
		}
	}
}

func TestPlacesStayInTheirOrder(t *testing.T) {
	chance := chances()
	isAhead := func(a, b api.Pos) int { return (a.Row-b.Row)*1000 + a.Col - b.Col }
	for range 2000 {
		l := anyRows(chance, 9)
		for cols := 2; cols < 9; cols++ {
			anew, is := flow.Reflow(l, cols, places(l)...)
			if !slices.IsSortedFunc(is, isAhead) {
				t.Fatalf("places of %v in %d columns: %v", l, cols, is)
			}
			for _, p := range is {
				if p.Row < 0 || p.Row > len(anew) || p.Col < 0 || p.Col > cols || p.Row == len(anew) && p.Col != 0 {
					t.Fatalf("%v isn't a place of %v", p, anew)
				}
			}
		}
	}
}

func TestPlacesOfScalarsStayAtThem(t *testing.T) {
	l := rows("ab\u3042", "+cdef", "ghi_", "+\u3042_j")
	at := places(l)
	for cols := 2; cols < 20; cols++ {
		anew, is := flow.Reflow(l, cols, at...)
		for i, p := range at {
			if p.Row < 0 || p.Row >= len(l) || p.Col < 0 || p.Col >= len(l[p.Row].Cells) || l[p.Row].Cells[p.Col].R == 0 {
				continue
			}
			if got := anew[is[i].Row].Cells[is[i].Col]; got != l[p.Row].Cells[p.Col] {
				t.Errorf("%v of %d columns is %v: %v", p, cols, is[i], got)
			}
		}
	}
}

func TestLongLineAndManyPlaces(t *testing.T) {
	l := make([]api.Row, api.MaxLines)
	for i := range l {
		l[i] = api.Row{Cells: text("\u3042a"), Cont: i > 0}
	}
	at := make([]api.Pos, 60000)
	for i := range at {
		at[i] = pos(len(l)-1-i, 2)
	}
	anew, is := flow.Reflow(l, 7, at...)
	if len(anew) != 50000 || len(is) != len(at) {
		t.Fatalf("%d rows, %d places", len(anew), len(is))
	}
	for i, p := range is {
		if anew[p.Row].Cells[p.Col].R != 'a' {
			t.Fatalf("%v is %v", at[i], p)
		}
	}
}

// What is handed in, and what is answered.

// spoil changes cells, and the room behind them.
func spoil(l []api.Cell) {
	l = l[:cap(l)]
	for i := range l {
		l[i] = api.Cell{R: 'X'}
	}
}

func spoilAll(l []api.Row) {
	for _, row := range l {
		spoil(row.Cells)
	}
	l = l[:cap(l)]
	for i := range l {
		l[i] = api.Row{Cells: text("X"), Cont: true}
	}
}

func TestWhatIsHandedInStays(t *testing.T) {
	for _, cols := range []int{1, 2, 3, 9} {
		whole := append(text("ab|"), text("|spare")...)
		list := append([]api.Row{{Cells: whole[:3]}, {Cells: []api.Cell{left, pad}, Cont: true}}, rows("spare")...)
		at := []api.Pos{pos(1, 1), pos(-3, 2), pos(9, 9), pos(7, 7)}
		l := list[:2]
		for range 2 {
			got, is := flow.Reflow(l, cols, at[:3]...)
			spoilAll(got)
			is = is[:cap(is)]
			for i := range is {
				is[i] = pos(-9, -9)
			}
			spoil(flow.Flow(l))
			spoilAll(flow.Split(whole[:3], cols))
			flow.Lines(l)
			flow.Offset(l, pos(1, 1))
			flow.Place(l, 2)
		}
		if !slices.Equal(whole, append(text("ab|"), text("|spare")...)) || !slices.Equal(list[1].Cells, []api.Cell{left, pad}) {
			t.Errorf("%d columns: changed cells: %v, %v", cols, whole, list)
		}
		if len(l[0].Cells) != 3 || l[0].Cont || !l[1].Cont || !isSameRow(list[2], rows("spare")[0]) {
			t.Errorf("%d columns: changed rows: %v", cols, list)
		}
		if !slices.Equal(at, []api.Pos{pos(1, 1), pos(-3, 2), pos(9, 9), pos(7, 7)}) {
			t.Errorf("%d columns: changed places: %v", cols, at)
		}
	}
}

func TestRowsShareNoCells(t *testing.T) {
	l := rows("ab|", "+\u3042c", "xyz", "de_", "+f__")
	for _, cols := range []int{1, 2, 3, 4, 9} {
		reflowed, _ := flow.Reflow(l, cols)
		for _, got := range [][]api.Row{reflowed, flow.Split(text("abcdefgh"), cols)} {
			for i := range got {
				was := slices.Clone(got)
				for k := range was {
					was[k].Cells = slices.Clone(was[k].Cells)
				}
				spoil(got[i].Cells)
				got[i] = was[i]
				if !isSame(got, was) {
					t.Fatalf("%d columns: row %d shares cells: %v, not %v", cols, i, got, was)
				}
			}
		}
	}
}
