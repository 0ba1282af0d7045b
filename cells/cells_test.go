package cells_test

import (
	"math"
	"slices"
	"strings"
	"testing"

	"marquee/api"
	"marquee/cells"
	"marquee/width"
)

const (
	wide  = 0x3042
	other = 0x3044
	mark  = 0x301
)

var (
	blue = api.Color{Kind: 1, N: 4}
	bold = api.Attr{Fore: api.Color{Kind: 1, N: 1}, Back: api.Color{Kind: 2, N: 0x102030}, Flags: api.Bold}
)

// sorts are cells of all sorts, and whether a right row may have such a cell somewhere.
var sorts = []struct {
	cell api.Cell
	ok   bool
}{
	{api.Cell{}, true},
	{api.Cell{Attr: bold}, true},
	{api.Cell{R: 'a', More: "\u0301", Attr: bold}, true},
	{api.Cell{R: wide, Half: api.Left}, true},
	{api.Cell{R: wide, Half: api.Right}, true},
	{api.Cell{R: wide, Half: api.Left, Attr: bold}, true},
	{api.Cell{R: wide, Half: api.Right, Attr: bold}, true},
	{api.Cell{R: wide, More: "\u0301", Half: api.Left}, true},
	{api.Cell{R: wide, More: "\u0301", Half: api.Right}, true},
	{api.Cell{R: other, Half: api.Right}, true},
	{api.Cell{Half: api.Pad}, true},
	{api.Cell{Half: api.Pad, Attr: bold}, true},
	{api.Cell{R: 'p', Half: api.Pad}, false},
	{api.Cell{More: "\u0301", Half: api.Pad}, false},
	{api.Cell{More: "\u0301"}, false},
	{api.Cell{Half: api.Left}, false},
	{api.Cell{Half: api.Right}, false},
	{api.Cell{R: 'n', Half: api.Left}, false},
	{api.Cell{R: 'n', Half: api.Right}, false},
	{api.Cell{R: wide}, false},
	{api.Cell{R: 'h', More: "\u0301", Half: 4, Attr: bold}, false},
	{api.Cell{R: 'h', Half: -1}, false},
}

// eachRow goes through all rows of up to so many cells of all sorts; right tells whether all of a row's cells may be in a right one.
func eachRow(most int, do func(row []api.Cell, right bool)) {
	var grow func(row []api.Cell, right bool)
	grow = func(row []api.Cell, right bool) {
		do(slices.Clone(row), right)
		if len(row) == most {
			return
		}
		for _, s := range sorts {
			grow(append(slices.Clone(row), s.cell), right && s.ok)
		}
	}
	grow(nil, true)
}

func same(t *testing.T, what string, row, got, want []api.Cell, args ...any) {
	t.Helper()
	if !slices.Equal(got, want) {
		t.Fatalf("%s%v of %v:\n%v, not\n%v", what, args, row, got, want)
	}
}

func text(s string) []api.Cell {
	var l []api.Cell
	for _, r := range s {
		c := api.Cell{R: r}
		switch {
		case r == '_':
			l = append(l, api.Cell{})
		case width.Of(r) == 2:
			l = append(l, half(c, api.Left), half(c, api.Right))
		default:
			l = append(l, c)
		}
	}
	return l
}

func TestBlanks(t *testing.T) {
	for _, x := range []struct{ n, want int }{
		{math.MinInt, 0}, {-1, 0}, {0, 0}, {1, 1}, {2, 2}, {999, 999}, {1000, 1000}, {1001, 1000}, {math.MaxInt, 1000},
	} {
		for _, back := range []api.Color{{}, blue, {Kind: -1, N: 7}} {
			same(t, "Blanks", nil, cells.Blanks(x.n, back), toldBlanks(x.want, back), x.n, back)
		}
	}
}

func TestExamples(t *testing.T) {
	row := cells.Put(cells.Blanks(5, api.Color{}), 1, wide, api.Attr{})
	if s := cells.Text(row); s != " \u3042" {
		t.Errorf("Text: %q", s)
	}
	if l := cells.Erase(row, 2, 3, api.Color{}); cells.Used(l) != 0 || cells.Text(l) != "" || len(l) != 5 {
		t.Errorf("Erase: %v", l)
	}
}

func TestMendAndRight(t *testing.T) {
	eachRow(4, func(row []api.Cell, right bool) {
		want := toldMend(row)
		same(t, "Mend", row, cells.Mend(row), want)
		right = right && slices.Equal(row, want)
		if cells.Right(row) != right {
			t.Fatalf("Right of %v: %v", row, !right)
		}
		if n := cells.Used(row); n != toldUsed(row) {
			t.Fatalf("Used of %v: %d", row, n)
		}
		if s := cells.Text(row); s != toldText(row) {
			t.Fatalf("Text of %v: %q", row, s)
		}
	})
}

func TestMend(t *testing.T) {
	l, r := api.Cell{R: wide, More: "\u0301", Half: api.Left, Attr: bold}, api.Cell{R: wide, More: "\u0301", Half: api.Right, Attr: bold}
	gone, pad := api.Cell{Attr: bold}, api.Cell{R: 'p', More: "x", Half: api.Pad, Attr: bold}
	for _, x := range []struct{ row, want []api.Cell }{
		{nil, nil},
		{[]api.Cell{l, r}, []api.Cell{l, r}},
		{[]api.Cell{l, r, r}, []api.Cell{l, r, gone}},
		{[]api.Cell{l, l, r}, []api.Cell{gone, l, r}},
		{[]api.Cell{r, l}, []api.Cell{gone, gone}},
		{[]api.Cell{l, r, l, r, l}, []api.Cell{l, r, l, r, gone}},
		{[]api.Cell{pad, pad}, []api.Cell{gone, pad}},
		{[]api.Cell{l, pad}, []api.Cell{gone, pad}},
		{[]api.Cell{half(l, 4), half(l, -1), half(l, math.MaxInt)}, []api.Cell{gone, gone, gone}},
	} {
		same(t, "Mend", x.row, cells.Mend(x.row), x.want)
	}
	for _, y := range []api.Cell{{R: other, More: l.More, Half: api.Right, Attr: bold}, {R: wide, Half: api.Right, Attr: bold}, {R: wide, More: l.More, Half: api.Right}} {
		same(t, "Mend", nil, cells.Mend([]api.Cell{l, y}), []api.Cell{gone, {Attr: y.Attr}}, y)
	}
}

func TestRightCells(t *testing.T) {
	for _, x := range []struct {
		r     rune
		more  string
		plain bool
		pair  bool
	}{
		{'a', "", true, false},
		{' ', "", true, false},
		{wide, "", false, true},
		{0xfffd, "", true, false},
		{0x10ffff, "", true, false},
		{mark, "", false, false},
		{7, "", false, false},
		{0x7f, "", false, false},
		{0x9f, "", false, false},
		{-1, "", false, false},
		{0xd800, "", false, false},
		{0x110000, "", false, false},
		{'a', "\u0301\ufe0f", true, false},
		{wide, "\U000e0100", false, true},
		{'a', strings.Repeat("\u0301", 16), true, false},
		{'a', strings.Repeat("\u0301", 17), false, false},
		{wide, strings.Repeat("\U000e0100", 8), false, true},
		{wide, strings.Repeat("\U000e0100", 8) + "\u0301", false, false},
		{'a', strings.Repeat("\ufe0f", 11), false, false}, // 33 bytes
		{'a', "\u0301b", false, false},
		{'a', "\u3042", false, false},
		{'a', "\u0301\n", false, false},
		{'a', "\xcc", false, false},
		{'a', "\u0301\xcc", false, false},
		{'a', "\xff", false, false},
		{'a', "\xed\xa0\x80", false, false},
		{0, "", true, false},
		{0, "\u0301", false, false},
	} {
		c := api.Cell{R: x.r, More: x.more, Attr: bold}
		if cells.Right([]api.Cell{c}) != x.plain {
			t.Errorf("Right of %+v alone: %v", c, !x.plain)
		}
		if cells.Right([]api.Cell{half(c, api.Left), half(c, api.Right)}) != x.pair {
			t.Errorf("Right of %+v in halves: %v", c, !x.pair)
		}
		if cells.Right([]api.Cell{half(c, api.Pad)}) != (x.r == 0 && x.more == "") {
			t.Errorf("Right of %+v as a Pad", c)
		}
	}
	if !cells.Right(nil) || !cells.Right([]api.Cell{{Attr: api.Attr{Fore: api.Color{Kind: 9}, Flags: -1}}}) {
		t.Error("Right of no cells, of any attribute")
	}
}

func TestUsedAndText(t *testing.T) {
	for _, x := range []struct {
		row  []api.Cell
		used int
		text string
	}{
		{nil, 0, ""},
		{text("___"), 0, ""},
		{text("_a_b__"), 4, " a b"},
		{text("a b "), 4, "a b "},
		{text("\u3042a_"), 3, "\u3042a"},
		{text("_\u3042"), 3, " \u3042"},
		{[]api.Cell{{R: 'e', More: "\u0301"}, {R: wide, More: "\u0302", Half: api.Left}, {R: wide, More: "\u0302", Half: api.Right}, {Half: api.Pad}}, 3, "e\u0301\u3042\u0302"},
		{[]api.Cell{{R: 'a'}, {Half: api.Pad}, {Half: api.Right}, {Half: api.Left}, {Half: 5}, {R: 'b', Half: 5}}, 6, "a  b"},
		{[]api.Cell{{R: 'a', Half: api.Right}, {R: 'b', Half: api.Pad}}, 2, ""},
		{[]api.Cell{{R: 'a', More: "\xff\n"}, {More: "x"}, {R: 7}, {R: -1, More: "y"}, {R: 0xd800}, {More: "z"}}, 5, "a\xff\n \ay"},
	} {
		if n := cells.Used(x.row); n != x.used {
			t.Errorf("Used of %v: %d, not %d", x.row, n, x.used)
		}
		if s := cells.Text(x.row); s != x.text {
			t.Errorf("Text of %v: %q, not %q", x.row, s, x.text)
		}
	}
}

func TestPut(t *testing.T) {
	eachRow(3, func(row []api.Cell, _ bool) {
		for x := -2; x < len(row)+2; x++ {
			for _, r := range []rune{'z', wide, other, mark, 0, 7, 0xd800, -1} {
				for _, a := range []api.Attr{{}, bold} {
					same(t, "Put", row, cells.Put(row, x, r, a), toldPut(row, x, r, a), x, r, a)
				}
			}
		}
	})
	row := text("ab\u3042c")
	a := api.Attr{Flags: api.Under}
	for _, x := range []struct {
		x    int
		r    rune
		text string
	}{
		{0, 'z', "zb\u3042c"}, {4, 'z', "ab\u3042z"}, {2, 'z', "abz c"}, {3, 'z', "ab zc"},
		{0, other, "\u3044\u3042c"}, {1, other, "a\u3044 c"}, {3, other, "ab \u3044"}, {4, other, "ab\u3042c"}, {3, wide, "ab \u3042"},
		{-1, 'z', "ab\u3042c"}, {5, 'z', "ab\u3042c"}, {math.MinInt, 'z', "ab\u3042c"}, {math.MaxInt, other, "ab\u3042c"},
		{0, mark, "ab\u3042c"}, {0, '\n', "ab\u3042c"}, {0, 0x85, "ab\u3042c"}, {0, 0x110000, "ab\u3042c"},
	} {
		if s := cells.Text(cells.Put(row, x.x, x.r, a)); s != x.text {
			t.Errorf("Put of %x at %d: %q, not %q", x.r, x.x, s, x.text)
		}
	}
	l := cells.Put([]api.Cell{{R: 'a', More: "\u0301", Attr: bold}, {}}, 0, 'z', a)
	same(t, "Put on a mark", nil, l, []api.Cell{{R: 'z', Attr: a}, {}})
	if l := cells.Put([]api.Cell{{}}, 0, wide, a); cells.Used(l) != 0 {
		t.Errorf("Put of two columns into one: %v", l)
	}
}

func TestMark(t *testing.T) {
	eachRow(3, func(row []api.Cell, _ bool) {
		for x := -2; x < len(row)+2; x++ {
			for _, r := range []rune{mark, 0xfe0f, 0xe0100, 'a', wide, 0, '\n', 0xdfff, -1} {
				same(t, "Mark", row, cells.Mark(row, x, r), toldMark(row, x, r), x, r)
			}
		}
	})
	for _, x := range []int{math.MinInt, math.MaxInt} {
		same(t, "Mark", nil, cells.Mark(text("ab"), x, mark), text("ab"), x)
	}
}

func TestMarkTillFull(t *testing.T) {
	for _, x := range []struct {
		marks []rune
		most  int // bytes
	}{
		{[]rune{mark}, 32},
		{[]rune{0xfe0f}, 30},
		{[]rune{0xe0100}, 32},
		{[]rune{0xfe0f, 0xe0100}, 31}, // four pairs, and one of three bytes: there is no room for any more
		{[]rune{mark, 0xfe0f, 0xe0100}, 32},
	} {
		for at := range 3 {
			row := text("a\u3042")
			more := ""
			for i := range 60 {
				r := x.marks[i%len(x.marks)]
				if s := more + string(r); len(s) <= 32 {
					more = s
				}
				row = cells.Mark(row, at, r)
				told := map[int]string{0: "a" + more + "\u3042", 1: "a\u3042" + more, 2: "a\u3042" + more}[at]
				if cells.Text(row) != told || !cells.Right(row) || len(row) != 3 {
					t.Fatalf("%d marks %x at %d: %q, not %q", i+1, x.marks, at, cells.Text(row), told)
				}
			}
			if len(more) != x.most {
				t.Errorf("marks %x: %d bytes", x.marks, len(more))
			}
		}
	}
	long := []api.Cell{{R: 'a', More: strings.Repeat("x", 31)}, {R: 'b', More: strings.Repeat("x", 40)}}
	same(t, "Mark of one that is nearly full", nil, cells.Mark(long, 0, mark), long)
	same(t, "Mark of one that is too full", nil, cells.Mark(long, 1, mark), long)
}

func TestClose(t *testing.T) {
	eachRow(4, func(row []api.Cell, _ bool) {
		same(t, "Close", row, cells.Close(row), toldClose(row))
	})
	same(t, "Close", nil, cells.Close([]api.Cell{{R: 'a', Attr: bold}}), []api.Cell{{Half: api.Pad}})
	same(t, "Close", nil, cells.Close(text("a\u3042")), []api.Cell{{R: 'a'}, {}, {Half: api.Pad}})
	same(t, "Close", nil, cells.Close(nil), nil)
}

func TestErase(t *testing.T) {
	eachRow(3, func(row []api.Cell, _ bool) {
		for from := -2; from < len(row)+2; from++ {
			for to := -2; to < len(row)+3; to++ {
				same(t, "Erase", row, cells.Erase(row, from, to, blue), toldErase(row, from, to, blue), from, to)
			}
		}
	})
	row := text("a\u3042bc")
	for _, x := range []struct {
		from, to int
		text     string
	}{
		{0, 5, ""}, {math.MinInt, math.MaxInt, ""}, {-3, 1, " \u3042bc"}, {2, 3, "a  bc"}, {1, 2, "a  bc"}, {3, 9, "a\u3042"}, {4, 5, "a\u3042b"},
		{1, 1, "a\u3042bc"}, {3, 2, "a\u3042bc"}, {5, 9, "a\u3042bc"}, {9, 12, "a\u3042bc"}, {-5, -2, "a\u3042bc"}, {-5, 0, "a\u3042bc"}, {math.MaxInt, math.MinInt, "a\u3042bc"},
	} {
		if s := cells.Text(cells.Erase(row, x.from, x.to, blue)); s != x.text {
			t.Errorf("Erase of %d to %d: %q, not %q", x.from, x.to, s, x.text)
		}
	}
	same(t, "Erase", row, cells.Erase(row, 2, 4, blue), slices.Concat(text("a_"), toldBlanks(2, blue), text("c")))
}

// times are how many cells are put in, or taken out.
var times = []int{math.MinInt, -1, 0, 1, 2, 3, 4, 5, math.MaxInt}

func TestInsertAndDelete(t *testing.T) {
	eachRow(3, func(row []api.Cell, _ bool) {
		for _, x := range []int{math.MinInt, -1, 0, 1, 2, 3, 4, math.MaxInt} {
			for _, n := range times {
				same(t, "Insert", row, cells.Insert(row, x, n, blue), toldInsert(row, x, n, blue), x, n)
				same(t, "Delete", row, cells.Delete(row, x, n, blue), toldDelete(row, x, n, blue), x, n)
			}
		}
	})
	row := text("a\u3042bc")
	for _, x := range []struct {
		x, n             int
		inserted, delete string
	}{
		{0, 1, " a\u3042b", "\u3042bc"}, {1, 1, "a \u3042b", "a bc"}, {2, 1, "a   b", "a bc"}, {2, 2, "a", "a c"}, {1, 2, "a  \u3042", "abc"},
		{1, 3, "a", "ac"}, {4, 1, "a\u3042b", "a\u3042b"}, {4, math.MaxInt, "a\u3042b", "a\u3042b"}, {0, 5, "", ""}, {0, math.MaxInt, "", ""},
		{5, 1, "a\u3042bc", "a\u3042bc"}, {-1, 1, "a\u3042bc", "a\u3042bc"}, {1, 0, "a\u3042bc", "a\u3042bc"}, {1, -1, "a\u3042bc", "a\u3042bc"},
	} {
		if s := cells.Text(cells.Insert(row, x.x, x.n, blue)); s != x.inserted {
			t.Errorf("Insert of %d at %d: %q, not %q", x.n, x.x, s, x.inserted)
		}
		if s := cells.Text(cells.Delete(row, x.x, x.n, blue)); s != x.delete {
			t.Errorf("Delete of %d at %d: %q, not %q", x.n, x.x, s, x.delete)
		}
	}
	same(t, "Insert", row, cells.Insert(row, 2, 1, blue), slices.Concat(text("a_"), toldBlanks(1, blue), text("_b")))
	same(t, "Delete", row, cells.Delete(row, 1, 2, blue), slices.Concat(text("abc"), toldBlanks(2, blue)))
}

func TestRowsAreMendedFirst(t *testing.T) {
	l, r := api.Cell{R: wide, Half: api.Left}, api.Cell{R: wide, Half: api.Right}
	// Without it halves that didn't belong together would come together, and a Pad would come to the end.
	same(t, "Delete", nil, cells.Delete([]api.Cell{l, {R: 'a'}, r}, 1, 1, blue), append(text("__"), toldBlanks(1, blue)...))
	same(t, "Insert", nil, cells.Insert([]api.Cell{{Half: api.Pad}, {R: 'a'}}, 0, 1, blue), append(toldBlanks(1, blue), api.Cell{}))
	// Halves of two cells that are the same are halves of one, once they stand side by side.
	same(t, "Delete", nil, cells.Delete([]api.Cell{l, r, l, r}, 1, 2, blue), append([]api.Cell{l, r}, toldBlanks(2, blue)...))
}

func TestLongRows(t *testing.T) {
	row := toldBlanks(2500, api.Color{})
	for i := range row {
		row[i].R = 'a'
	}
	l := cells.Insert(row, 100, 1500, blue)
	same(t, "Insert", nil, l, slices.Concat(row[:100], toldBlanks(1500, blue), row[:900]))
	l = cells.Delete(row, 100, 1500, blue)
	same(t, "Delete", nil, l, slices.Concat(row[:1000], toldBlanks(1500, blue)))
	l = cells.Erase(row, 100, 1600, blue)
	same(t, "Erase", nil, l, slices.Concat(row[:100], toldBlanks(1500, blue), row[:900]))
}

// steps are all calls that make a row of a row, by numbers.
func steps(row []api.Cell, x, n int, r rune) [][]api.Cell {
	return [][]api.Cell{
		cells.Put(row, x, r, bold),
		cells.Put(row, x, r, api.Attr{}),
		cells.Mark(row, x, r),
		cells.Erase(row, x, n, blue),
		cells.Insert(row, x, n, blue),
		cells.Delete(row, x, n, api.Color{}),
		cells.Mend(row),
		cells.Close(row),
	}
}

func TestRightRowsStayRight(t *testing.T) {
	seed := uint64(1) // what looks like chance is the same in each run
	chance := func(n int) int {
		seed = seed*6364136223846793005 + 1442695040888963407
		return int(seed >> 33 % uint64(n))
	}
	scalars := []rune{'a', 'b', wide, wide, other, mark, mark, 0xe0100, '\n', 0}
	for cols := range 9 {
		row := cells.Blanks(cols, api.Color{})
		for range 3000 {
			l := steps(row, chance(cols+4)-2, chance(cols+3)-1, scalars[chance(len(scalars))])
			for i, next := range l {
				if len(next) != cols || !cells.Right(next) {
					t.Fatalf("step %d of %v: %v", i, row, next)
				}
			}
			row = l[chance(len(l))]
		}
	}
}

func TestNothingIsShared(t *testing.T) {
	for _, s := range []string{"a\u3042bc", "_____", "\u3042\u3044z"} {
		for x := -1; x < 6; x++ {
			for n := -1; n < 7; n++ {
				for _, r := range []rune{'z', wide, mark, '\n'} {
					checkUnshared(t, text(s), x, n, r)
				}
			}
		}
	}
}

// checkUnshared tells whether the row, or the room behind it, is changed by a call, or by a change of what it answered.
func checkUnshared(t *testing.T, row []api.Cell, x, n int, r rune) {
	t.Helper()
	whole := append(slices.Clone(row), text("spare\u3042room")...)
	was := slices.Clone(whole)
	row = whole[:len(row)]
	l := steps(row, x, n, r)
	cells.Right(row)
	for _, next := range l {
		next = next[:cap(next)]
		for i := range next {
			next[i].R = 'X'
		}
	}
	if !slices.Equal(whole, was) {
		t.Fatalf("steps of %d, %d, %x changed %v: %v", x, n, r, was, whole)
	}
}
