package screen_test

import (
	"math"
	"slices"
	"strings"
	"testing"

	"marquee/api"
	"marquee/chars"
)

func TestExample(t *testing.T) {
	s := newScreen(t, 2, 3, 5)
	prints(s, "abc")
	shows(t, "abc", s, pos(0, 3), 0, "abc", "___")
	s.Print('d')
	shows(t, "d", s, pos(1, 1), 0, "abc", "+d__")
}

func TestPrint(t *testing.T) {
	wraps, puts, both := api.Opts{Wrap: true}, api.Opts{Put: true}, api.Opts{Put: true, Wrap: true}
	for _, x := range []struct {
		opts api.Opts
		from api.Pos // column 3 is the edge, where an e stands
		text string
		at   api.Pos
		base int
		want []string
	}{
		{wraps, pos(0, 0), "z", pos(0, 1), 0, []string{"zbc", "def", "ghi"}},
		{wraps, pos(0, 1), "\u3042", pos(0, 3), 0, []string{"a\u3042", "def", "ghi"}},
		{wraps, pos(0, 2), "z", pos(0, 3), 0, []string{"abz", "def", "ghi"}},
		{wraps, pos(0, 2), "zy", pos(1, 1), 0, []string{"abz", "+yef", "ghi"}},
		{wraps, pos(0, 3), "z", pos(1, 1), 0, []string{"abe", "+zef", "ghi"}},
		{wraps, pos(0, 3), "\u3042", pos(1, 2), 0, []string{"abe", "+\u3042f", "ghi"}}, // at the edge there is no Pad
		{wraps, pos(0, 2), "\u3042", pos(1, 2), 0, []string{"ab|", "+\u3042f", "ghi"}},
		{wraps, pos(0, 0), "\u3042\u3042\u3042", pos(2, 2), 0, []string{"\u3042|", "+\u3042|", "+\u3042i"}},
		{wraps, pos(2, 3), "z", pos(2, 1), 1, []string{"abc", "def", "ghe", "+z__"}},
		{wraps, pos(2, 2), "\u3042", pos(2, 2), 1, []string{"abc", "def", "gh|", "+\u3042_"}},
		{wraps, pos(2, 3), "zyxwvut", pos(2, 1), 3, []string{"abc", "def", "ghe", "+zyx", "+wvu", "+t__"}},
		{api.Opts{}, pos(0, 2), "zyx", pos(0, 3), 0, []string{"abx", "def", "ghi"}},
		{api.Opts{}, pos(2, 3), "z", pos(2, 3), 0, []string{"abc", "def", "ghz"}},
		{api.Opts{}, pos(0, 2), "\u3042", pos(0, 3), 0, []string{"a\u3042", "def", "ghi"}},
		{api.Opts{}, pos(0, 3), "\u3042", pos(0, 3), 0, []string{"a\u3042", "def", "ghi"}},
		{api.Opts{}, pos(0, 3), "\u3042z", pos(0, 3), 0, []string{"a_z", "def", "ghi"}},
		{puts, pos(0, 0), "z", pos(0, 1), 0, []string{"zab", "def", "ghi"}},
		{puts, pos(0, 1), "\u3042", pos(0, 3), 0, []string{"a\u3042", "def", "ghi"}},
		{puts, pos(0, 0), "\u3042", pos(0, 2), 0, []string{"\u3042a", "def", "ghi"}},
		{puts, pos(0, 3), "z", pos(0, 3), 0, []string{"abz", "def", "ghi"}},
		{puts, pos(0, 3), "\u3042", pos(0, 3), 0, []string{"a\u3042", "def", "ghi"}},
		{both, pos(0, 3), "z", pos(1, 1), 0, []string{"abe", "+zde", "ghi"}},
		{both, pos(0, 2), "\u3042", pos(1, 2), 0, []string{"ab|", "+\u3042d", "ghi"}},
		{both, pos(0, 2), "zy", pos(1, 1), 0, []string{"abz", "+yde", "ghi"}},
	} {
		s := write(newScreen(t, 3, 3, 9), "abc", "def", "ghi")
		if s.Move(x.from.Row, x.from.Col); x.from.Col == 3 {
			edge(s, x.from.Row)
		}
		s.Set(x.opts)
		prints(s, x.text)
		shows(t, x.text, s, x.at, x.base, x.want...)
	}
}

func TestPrintInARegion(t *testing.T) {
	doc := []string{"abc", "def", "ghi", "jkl"}
	s := write(newScreen(t, 4, 3, 9), doc...)
	s.Margins(1, 2)
	edge(s, 2)
	s.Print('z') // the region is scrolled
	shows(t, "at the bottom", s, pos(2, 1), 0, "abc", "ghe", "+z__", "jkl")

	s = write(newScreen(t, 4, 3, 9), doc...)
	s.Margins(0, 2)
	edge(s, 2)
	s.Print('z') // and its first row comes into the history
	shows(t, "at the bottom", s, pos(2, 1), 1, "abc", "def", "ghe", "+z__", "jkl")

	s = write(newScreen(t, 4, 3, 9), doc...)
	s.Margins(0, 2)
	edge(s, 3)
	s.Print('z') // there is no row to go to: it doesn't go on
	shows(t, "behind the region", s, pos(3, 1), 0, "abc", "def", "ghi", "zke")
	s.Move(3, 2)
	s.Print(wide)
	shows(t, "behind the region", s, pos(3, 2), 0, "abc", "def", "ghi", "\u3042|")
	s.Margins(2, 3)
	edge(s, 0)
	s.Print('z')
	shows(t, "ahead of the region", s, pos(1, 1), 0, "abe", "+zef", "ghi", "\u3042|")
}

func TestPrintWithoutRoom(t *testing.T) {
	s := newScreen(t, 1, 2, 0)
	prints(s, "ab")
	shows(t, "ab", s, pos(0, 2), 0, "ab")
	s.Print('c')
	shows(t, "c", s, pos(0, 1), 0, "+c_")
	s.Print(wide)
	shows(t, "a wide one", s, pos(0, 2), 0, "+\u3042")
	if l := s.Page().Shifts(); !slices.Equal(l, slices.Repeat([]api.Shift{{Kind: api.Insert, At: 1, N: 1}, {Kind: api.Evict, N: 1}}, 2)) {
		t.Errorf("shifts %v", l)
	}
}

func TestPrintColors(t *testing.T) {
	s := write(newScreen(t, 2, 4, 0), "abcd")
	s.Turn([][]int{{31}, {44}, {1}})
	s.Set(api.Opts{Put: true, Wrap: true})
	a := api.Attr{Fore: red, Back: blue, Flags: api.Bold}
	s.Move(0, 1)
	s.Print(wide)
	row, _ := s.Page().Row(0)
	if want := []api.Cell{{R: 'a'}, {R: wide, Half: api.Left, Attr: a}, {R: wide, Half: api.Right, Attr: a}, {R: 'b'}}; !slices.Equal(row.Cells, want) {
		t.Errorf("%+v, not %+v", row.Cells, want)
	}
	// blanks of Back come in, but a Pad has no color
	s.Page().Put(0, 0, wide, api.Attr{})
	s.Move(0, 1)
	s.Print('x')
	s.Move(1, 3)
	s.Print(wide)
	row, _ = s.Page().Row(0)
	if want := (api.Cell{Half: api.Pad}); row.Cells[3] != want {
		t.Errorf("the Pad: %+v", row.Cells[3])
	}
	row, _ = s.Page().Row(1)
	if want := (api.Cell{Attr: api.Attr{Back: blue}}); row.Cells[2] != want || !row.Cont {
		t.Errorf("the row that came in: %+v", row)
	}
}

func TestPutBreaksHalves(t *testing.T) {
	s := write(newScreen(t, 1, 5, 0), "a\u3042bc")
	s.Turn([][]int{{44}})
	s.Set(api.Opts{Put: true})
	s.Move(0, 2)
	s.Print('x')
	shows(t, "Put", s, pos(0, 3), 0, "a_x_b")
}

func TestPrintMarks(t *testing.T) {
	s := newScreen(t, 2, 3, 0)
	s.Print(mark) // there is nothing ahead
	shows(t, "at the beginning", s, pos(0, 0), 0, "___", "___")
	prints(s, "a\u0301b\u3042") // a Pad stands behind b
	s.Print(mark)
	shows(t, "behind a wide one", s, pos(1, 2), 0, "a\u0301b|", "+\u3042\u0301_")
	row, _ := s.Page().Row(1)
	if row.Cells[0].More != "\u0301" || row.Cells[1].More != "\u0301" {
		t.Errorf("both halves: %+v", row.Cells)
	}
	s.Print('c')
	isAt(t, "the edge", s, pos(1, 3))
	prints(s, "\ufe0f\u0301")
	shows(t, "at the edge", s, pos(1, 3), 0, "a\u0301b|", "+\u3042\u0301c\ufe0f\u0301")
	s.Move(0, 0)
	s.Print(mark)
	s.Move(0, 1)
	s.Print(mark)
	shows(t, "wherever the cursor is", s, pos(0, 1), 0, "a\u0301\u0301b|", "+\u3042\u0301c\ufe0f\u0301")
	s.ErasePage(2)
	s.Print(mark)
	shows(t, "where nothing was written", s, pos(0, 1), 0, "___", "___")
	s.Print('d')
	prints(s, strings.Repeat("\u0301", 20))
	row, _ = s.Page().Row(0)
	if row.Cells[1].More != strings.Repeat("\u0301", 16) {
		t.Errorf("more marks than may be: %q", row.Cells[1].More)
	}
}

func TestPrintWhatHasNoWidth(t *testing.T) {
	s := newScreen(t, 1, 3, 0)
	s.Print('a')
	for _, r := range []rune{0, 7, 0x1b, 0x7f, 0x80, 0x9f, 0xd800, 0xdfff, 0x110000, -1, math.MinInt32, math.MaxInt32} {
		s.Chars(chars.New().Lock('N'))
		s.Print(r)
		shows(t, "no width", s, pos(0, 1), 0, "a__")
		if x := s.State().Chars; x != chars.New() { // the state is the one behind it all the same
			t.Errorf("Print(%x): %+v", r, x)
		}
	}
	s.Repeat(1)
	shows(t, "Repeat", s, pos(0, 2), 0, "aa_")
}

func TestPrintMaps(t *testing.T) {
	s := newScreen(t, 1, 9, 0)
	s.Chars(chars.New().Name(")", '0').Name("*", 'A').Take(0x0e).Lock('N'))
	prints(s, "#q#")
	shows(t, "mapped", s, pos(0, 3), 0, "\u00a3\u2500#______")
	want := chars.New().Name(")", '0').Name("*", 'A').Take(0x0e)
	if x := s.State().Chars; x != want {
		t.Errorf("%+v, not %+v", x, want)
	}
	s.Chars(want.Lock('N'))
	s.Print(mark) // a mark is mapped, too
	if x := s.State().Chars; x != want {
		t.Errorf("%+v, not %+v", x, want)
	}
}

func TestRepeat(t *testing.T) {
	s := newScreen(t, 2, 3, 9)
	for _, n := range append(far, 0, 1, 9) {
		s.Repeat(n)
		shows(t, "nothing was printed", s, pos(0, 0), 0, "___", "___")
	}
	s.Print('a')
	for _, n := range []int{0, -1, math.MinInt, 1} {
		s.Return()
		s.Repeat(n)
		shows(t, "once", s, pos(0, 1), 0, "a__", "___")
	}
	s.Repeat(3)
	shows(t, "three times", s, pos(1, 1), 0, "aaa", "+a__")
	for _, n := range []int{6, 7, 999, math.MaxInt} { // six times
		s.ErasePage(2)
		s.ErasePage(3)
		s.Move(0, 2)
		s.Repeat(n)
		shows(t, "as often as there are cells", s, pos(1, 2), 1, "__a", "+aaa", "+aa_")
	}
}

func TestRepeatOfWhatWasPrintedLast(t *testing.T) {
	s := newScreen(t, 2, 6, 0)
	s.Print('a')
	s.Print(mark) // neither a mark nor what has no width is put into a cell
	s.Print(7)
	s.Repeat(2)
	shows(t, "behind a mark", s, pos(0, 3), 0, "a\u0301aa___", "______")
	s.Print(wide)
	s.Turn([][]int{{31}})
	s.Repeat(1)
	shows(t, "a wide one", s, pos(1, 2), 0, "a\u0301aa\u3042|", "+\u3042____")
	if row, _ := s.Page().Row(1); row.Cells[0].Attr.Fore != red {
		t.Errorf("the attribute is the one of now: %+v", row.Cells[0])
	}
	s.Move(1, 3)
	s.Repeat(1)
	s.Move(0, 0)
	s.Set(api.Opts{Put: true})
	s.Repeat(1)
	shows(t, "put in", s, pos(0, 2), 0, "\u3042a\u0301aa_", "+\u3042_\u3042_")
}

func TestRepeatIsNotMapped(t *testing.T) {
	s := newScreen(t, 1, 9, 0)
	lines := chars.New().Name(")", '0').Name("*", '0')
	s.Chars(lines.Lock('N'))
	s.Print('q') // printed as 2500
	once := lines.Take(0x0e).Lock('N')
	s.Chars(once)
	s.Repeat(2)
	shows(t, "as it was mapped", s, pos(0, 3), 0, "\u2500\u2500\u2500______")
	if x := s.State().Chars; x != once {
		t.Errorf("%+v, not %+v", x, once)
	}
	s.Chars(chars.New())
	s.Print('x')
	s.Chars(lines.Take(0x0e))
	s.Repeat(1)
	shows(t, "as it was mapped", s, pos(0, 5), 0, "\u2500\u2500\u2500xx____")
}
