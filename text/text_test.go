package text_test

import (
	"math"
	"slices"
	"strings"
	"testing"

	"marquee/api"
	"marquee/flow"
	"marquee/text"
)

const wide = 0x3042

var (
	blue = api.Attr{Back: api.Color{Kind: 1, N: 4}}
	pad  = api.Cell{Half: api.Pad}
)

func pos(row, col int) api.Pos {
	return api.Pos{Row: row, Col: col}
}

// row is a row of a text; of it a + ahead says that the row goes on, _ is a cell in which nothing was written, | a Pad, and a wide scalar two cells.
func row(s string) api.Row {
	var r api.Row
	s, r.Cont = strings.CutPrefix(s, "+")
	for _, c := range s {
		switch c {
		case '_':
			r.Cells = append(r.Cells, api.Cell{Attr: blue})
		case '|':
			r.Cells = append(r.Cells, pad)
		case wide:
			r.Cells = append(r.Cells, api.Cell{R: c, Half: api.Left}, api.Cell{R: c, Half: api.Right})
		default:
			r.Cells = append(r.Cells, api.Cell{R: c, Attr: blue})
		}
	}
	return r
}

func rows(l ...string) []api.Row {
	var all []api.Row
	for _, s := range l {
		all = append(all, row(s))
	}
	return all
}

// holds holds a part's text.
func holds(t *testing.T, l []api.Row, from, to api.Pos, want string) {
	t.Helper()
	if got := text.Of(l, from, to); got != want {
		t.Errorf("Of(%v, %v, %v): %q, not %q", l, from, to, got, want)
	}
	if n := len(text.Places(l, from, to)); n != len(want) {
		t.Errorf("Places(%v, %v, %v): %d, not %d", l, from, to, n, len(want))
	}
}

func TestExample(t *testing.T) {
	l := rows("ab", "+cd", "e")
	holds(t, l, pos(0, 0), pos(2, 0), "abcd\n")
	holds(t, l, pos(0, 0), pos(3, 0), "abcd\ne\n")
	holds(t, rows("ab", "cd", "e"), pos(0, 0), pos(2, 0), "ab\ncd\n")
}

func TestPart(t *testing.T) {
	l := rows("ab", "+cd", "e_", "", "fg")
	for _, x := range []struct {
		from, to api.Pos
		want     string
	}{
		{pos(0, 0), pos(5, 0), "abcd\ne\n\nfg\n"},
		{pos(0, 0), pos(4, 0), "abcd\ne\n\n"},
		{pos(0, 0), pos(4, 1), "abcd\ne\n\nf"},
		{pos(0, 0), pos(4, 9), "abcd\ne\n\nfg"}, // its row isn't ahead of to's
		{pos(0, 1), pos(1, 1), "bc"},
		{pos(0, 1), pos(1, 0), "b"}, // the line goes on
		{pos(0, 1), pos(1, 9), "bcd"},
		{pos(0, 1), pos(2, 0), "bcd\n"},
		{pos(0, 9), pos(1, 1), "c"},
		{pos(1, 0), pos(2, 1), "cd\ne"},
		{pos(1, 1), pos(3, 0), "d\ne\n"},
		{pos(1, 2), pos(3, 0), "\ne\n"}, // what is left of the line is empty
		{pos(2, 2), pos(4, 0), "\n\n"},
		{pos(3, 0), pos(4, 0), "\n"},
		{pos(3, 7), pos(4, 0), "\n"},
		{pos(4, 9), pos(5, 0), "\n"},
		{pos(4, 1), pos(4, 2), "g"},
		{pos(4, 2), pos(4, 9), ""},
	} {
		holds(t, l, x.from, x.to, x.want)
	}
}

func TestNoPart(t *testing.T) {
	l := rows("ab", "cd")
	for _, x := range [][2]api.Pos{
		{pos(0, 0), pos(0, 0)},
		{pos(1, 1), pos(1, 1)},
		{pos(1, 1), pos(1, 0)},
		{pos(1, 0), pos(0, 9)},
		{pos(2, 0), pos(3, 0)}, // from's row isn't there any more
		{pos(9, 0), pos(math.MaxInt, 0)},
		{pos(math.MaxInt, 0), pos(math.MaxInt, 9)},
		{pos(-1, 9), pos(0, 0)}, // which counts as 0, 0
		{pos(-1, 0), pos(-1, 9)},
		{pos(-9, 0), pos(-1, 0)},
		{pos(1, 0), pos(math.MinInt, 0)},
		{pos(0, 0), pos(0, -1)},
	} {
		holds(t, l, x[0], x[1], "")
		if got := text.Lines(l, x[0], x[1]); len(got) != 0 {
			t.Errorf("Lines(%v): %q", x, got)
		}
	}
	holds(t, nil, pos(0, 0), pos(1, 0), "")
	holds(t, []api.Row{}, pos(-1, 0), pos(1, 0), "")
}

// TestFarPlaces: places beyond the rows are as good as others.
func TestFarPlaces(t *testing.T) {
	l := rows("ab", "cd")
	holds(t, l, pos(math.MinInt, math.MaxInt), pos(math.MaxInt, math.MaxInt), "ab\ncd\n")
	holds(t, l, pos(-1, 1), pos(1, 1), "ab\nc")
	holds(t, l, pos(0, math.MinInt), pos(1, math.MaxInt), "ab\ncd")
	holds(t, l, pos(0, math.MaxInt), pos(1, math.MinInt), "\n")
	holds(t, l, pos(0, -3), pos(0, -1), "")
	holds(t, l, pos(0, -3), pos(0, 1), "a")
}

func TestUnwritten(t *testing.T) {
	for _, x := range []struct {
		l    []api.Row
		want string
	}{
		{rows("_a__b__"), " a  b\n"},
		{rows("____"), "\n"},
		{rows("a__", "+___", "+_b_"), "a      b\n"}, // those amid a line stand there
		{rows("a__", "+___", "+___", "b"), "a\nb\n"},
		{rows("a b "), "a b \n"}, // a blank that was written
		{rows("a__|", "+|__b|"), "a    b\n"},
		{rows("a_|_"), "a\n"},
	} {
		holds(t, x.l, pos(0, 0), pos(len(x.l), 0), x.want)
	}
	l := rows("a__", "+___", "+_b_")
	holds(t, l, pos(0, 0), pos(2, 0), "a") // at the part's end nothing was written
	holds(t, l, pos(0, 0), pos(2, 1), "a")
	holds(t, l, pos(0, 0), pos(2, 2), "a      b")
	holds(t, l, pos(0, 1), pos(2, 2), "      b")
	holds(t, l, pos(0, 1), pos(2, 0), "")
}

func TestWideAndMarked(t *testing.T) {
	l := rows("a\u3042|", "+\u3042b_")
	l[0].Cells[0].More = "\u0301\u0302"
	l[0].Cells[1].More, l[0].Cells[2].More = "\u0301", "\u0301"
	holds(t, l, pos(0, 0), pos(2, 0), "a\u0301\u0302\u3042\u0301\u3042b\n")
	holds(t, l, pos(0, 0), pos(0, 2), "a\u0301\u0302\u3042\u0301") // the other half stands ahead of to
	holds(t, l, pos(0, 2), pos(1, 1), "\u3042")                    // of a Right one alone there is nothing
	holds(t, l, pos(0, 2), pos(0, 3), "")
	holds(t, rows("\U0001f600_"), pos(0, 0), pos(1, 0), "\U0001f600\n")
}

// TestWrongCells: any cells are taken as they are.
func TestWrongCells(t *testing.T) {
	for _, x := range []struct {
		c    api.Cell
		want string
	}{
		{api.Cell{R: -1, More: "x"}, "x"},
		{api.Cell{R: 0xd800}, ""},
		{api.Cell{R: 0x110000, More: "\xff"}, "\xff"},
		{api.Cell{R: 'l', Half: api.Left}, "l"},
		{api.Cell{R: 'r', Half: api.Right, More: "x"}, ""},
		{api.Cell{R: 0, Half: api.Right}, ""},
		{api.Cell{R: 'p', Half: api.Pad, More: "x"}, ""},
		{api.Cell{R: 0, Half: api.Left}, " "},
		{api.Cell{R: 0, More: "x"}, " "},
		{api.Cell{R: 'h', Half: 4, More: "x"}, "hx"},
		{api.Cell{R: 'h', Half: -1}, "h"},
		{api.Cell{R: '\n'}, "\n"},
	} {
		one := row("ab")
		one.Cells = slices.Insert(one.Cells, 1, x.c)
		holds(t, []api.Row{one}, pos(0, 0), pos(1, 0), "a"+x.want+"b\n")
	}
}

func TestPlaces(t *testing.T) {
	l := rows("a\u3042|", "+_b_", "___", "|", "")
	l[0].Cells[0].More = "\u0301"
	got := text.Places(l, pos(0, 0), pos(5, 0))
	want := []api.Pos{
		pos(0, 0), pos(0, 0), pos(0, 0), pos(0, 1), pos(0, 1), pos(0, 1), pos(1, 0), pos(1, 1), pos(1, 3), // its last cells are none that are Pads
		pos(2, 3), pos(3, 0), pos(4, 0),
	}
	if !slices.Equal(got, want) {
		t.Errorf("Places: %v, not %v", got, want)
	}
	got = text.Places(rows("ab", "+c||"), pos(0, 1), pos(1, 2))
	if !slices.Equal(got, []api.Pos{pos(0, 1), pos(1, 0)}) {
		t.Errorf("Places of a part: %v", got)
	}
	for _, x := range []struct {
		l    []api.Row
		want api.Pos
	}{
		{rows("c||"), pos(0, 1)},
		{rows("c|_|"), pos(0, 3)},
		{rows("||"), pos(0, 0)},
		{rows("ab", "+||"), pos(1, 0)},
		{rows("ab", "+"), pos(1, 0)},
	} {
		got := text.Places(x.l, pos(0, 1), pos(len(x.l), 0))
		if at := got[len(got)-1]; at != x.want {
			t.Errorf("Places(%v): the line feed is at %v, not %v", x.l, at, x.want)
		}
	}
}

func TestLines(t *testing.T) {
	l := rows("ab", "+cd", "", "e_", "f")
	for _, x := range []struct {
		from, to api.Pos
		want     []string
	}{
		{pos(0, 0), pos(5, 0), []string{"abcd", "", "e", "f"}},
		{pos(0, 0), pos(4, 0), []string{"abcd", "", "e"}},
		{pos(0, 0), pos(4, 1), []string{"abcd", "", "e", "f"}},
		{pos(0, 0), pos(1, 1), []string{"abc"}},
		{pos(1, 1), pos(3, 0), []string{"d", ""}},
		{pos(1, 1), pos(2, 9), []string{"d"}},
		{pos(2, 0), pos(3, 0), []string{""}},
		{pos(2, 0), pos(2, 1), nil},
	} {
		if got := text.Lines(l, x.from, x.to); !slices.Equal(got, x.want) {
			t.Errorf("Lines(%v, %v): %q, not %q", x.from, x.to, got, x.want)
		}
	}
	if got := text.Lines(rows("a\r"), pos(0, 0), pos(1, 0)); !slices.Equal(got, []string{"a\r"}) {
		t.Errorf("Lines: %q", got)
	}
}

func TestTrim(t *testing.T) {
	for s, want := range map[string]string{
		"":           "",
		"\n":         "",
		"\n\n\n":     "",
		"a":          "a",
		"a\n":        "a",
		"a\n\n":      "a",
		"\na\n":      "\na",
		"a\n\nb\n\n": "a\n\nb",
		"a \n":       "a ",
		"a\r\n":      "a\r",
		"a\n \n":     "a\n ",
		"\xff\n":     "\xff",
	} {
		if got := text.Trim(s); got != want {
			t.Errorf("Trim(%q): %q, not %q", s, got, want)
		}
	}
}

// TestWhatIsHandedIn stays as it is, and what is answered is new.
func TestWhatIsHandedIn(t *testing.T) {
	make1 := func() []api.Row {
		l := make([]api.Row, 0, 5)
		l = append(l, rows("a\u3042|", "+_b_", "c")...)
		for i := range l {
			l[i].Cells = slices.Grow(l[i].Cells, 3)
		}
		return l
	}
	l, same := make1(), make1()
	first := text.Places(l, pos(0, 0), pos(3, 0))
	want := slices.Clone(first)
	text.Of(l, pos(-1, 0), pos(3, 0))
	text.Lines(l, pos(0, 0), pos(1, 1))
	for i := range first[:cap(first)] {
		first[:cap(first)][i] = pos(99, 99)
	}
	if got := text.Places(l, pos(0, 0), pos(3, 0)); !slices.Equal(got, want) {
		t.Errorf("Places: %v, not %v", got, want)
	}
	lines := text.Lines(l, pos(0, 0), pos(3, 0))
	clear(lines[:cap(lines)])
	for i, r := range l[:cap(l)] {
		if r.Cont != same[:cap(l)][i].Cont || !slices.Equal(r.Cells[:cap(r.Cells)], same[:cap(l)][i].Cells[:cap(r.Cells)]) {
			t.Errorf("the row %d has changed: %v", i, r)
		}
	}
	holds(t, l, pos(0, 0), pos(3, 0), "a\u3042 b\nc\n")
}

// TestManyRows: a short part of a long document is told as of a short one.
func TestManyRows(t *testing.T) {
	l := make([]api.Row, api.MaxLines)
	for i := range l {
		l[i] = api.Row{Cells: []api.Cell{{R: 'a' + rune(i%26)}}, Cont: i%5 > 0}
	}
	last := len(l) - 1
	for range 20000 {
		if got := text.Of(l, pos(last, 0), pos(last+1, 0)); len(got) != 2 {
			t.Fatalf("the last row: %q", got)
		}
		if got := text.Of(l, pos(0, 0), pos(2, 1)); got != "abc" {
			t.Fatalf("the first rows: %q", got)
		}
	}
	all := text.Of(l, pos(0, 0), pos(len(l), 0))
	if len(all) != len(l)+len(flow.Lines(l)) {
		t.Errorf("all of it has %d bytes", len(all))
	}
}
