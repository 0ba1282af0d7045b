package screen_test

import (
	"math"
	"reflect"
	"slices"
	"testing"

	"marquee/api"
	"marquee/chars"
	"marquee/screen"
)

// first is the state of a new screen of so many rows.
func first(rows int) screen.State {
	return screen.State{Chars: chars.New(), Opts: api.Opts{Wrap: true}, Bottom: rows - 1}
}

func TestNew(t *testing.T) {
	for _, x := range wrongSizes {
		if s, e := screen.New(x[0], x[1], 9); s != nil || e != api.ErrArg {
			t.Errorf("New(%d, %d, 9): %v, %v", x[0], x[1], s, e)
		}
	}
	for _, n := range []int{math.MinInt, -1, 100001, math.MaxInt} {
		if s, e := screen.New(5, 5, n); s != nil || e != api.ErrArg {
			t.Errorf("New(5, 5, %d): %v, %v", n, s, e)
		}
	}
	for _, x := range [][3]int{{1, 2, 0}, {1, 1000, 100000}, {1000, 2, 3}, {24, 80, 1000}} {
		s := newScreen(t, x[0], x[1], x[2])
		if got := s.State(); got != first(x[0]) {
			t.Errorf("New(%v): %+v", x, got)
		}
		if p := s.Page(); p.Rows() != x[0] || p.Cols() != x[1] || p.Base() != 0 || s.Stops().Cols() != x[1] {
			t.Errorf("New(%v): %d rows, %d columns, base %d, stops of %d", x, p.Rows(), p.Cols(), p.Base(), s.Stops().Cols())
		}
	}
	if l := newScreen(t, 1, 20, 0).Stops().List(); !slices.Equal(l, []int{0, 8, 16}) {
		t.Errorf("stops %v", l)
	}
	s := newScreen(t, 1, 2, 3)
	for range 9 {
		s.Feed()
	}
	if s.Page().Base() != 3 || s.Page().Gone() != 6 {
		t.Errorf("base %d, %d gone", s.Page().Base(), s.Page().Gone())
	}
}

func TestPageAndStopsAreItsOwn(t *testing.T) {
	s, other := newScreen(t, 2, 20, 1), newScreen(t, 2, 20, 1)
	if s.Page() != s.Page() || s.Stops() != s.Stops() || s.Page() == other.Page() || s.Stops() == other.Stops() {
		t.Error("Page, Stops")
	}
	s.Stops().Set(3)
	s.Tab(1)
	s.Print('a')
	isAt(t, "a stop that was set", s, pos(0, 4))
	if r, _ := s.Page().Row(0); r.Cells[3].R != 'a' {
		t.Error("Print", line(r))
	}
	isAt(t, "another one", other, pos(0, 0))
}

func TestStateIsOfThat(t *testing.T) {
	s := newScreen(t, 3, 4, 0)
	opts := api.Opts{Put: true, Home: true}
	s.Set(opts)
	c := chars.State{Sets: [4]int{1, 48, 65, -7}, Use: 9, Once: -3}
	s.Chars(c)
	s.Turn([][]int{{1}, {31}})
	want := screen.State{Attr: api.Attr{Fore: red, Flags: api.Bold}, Chars: c, Opts: opts, Bottom: 2}
	if got := s.State(); got != want {
		t.Errorf("%+v, not %+v", got, want)
	}
	s.Keep()
	s.Margins(1, 2)
	want.At, want.Top, want.Kept = pos(1, 0), 1, true
	if got := s.State(); got != want {
		t.Errorf("%+v, not %+v", got, want)
	}
}

func TestTurn(t *testing.T) {
	s := newScreen(t, 1, 2, 0)
	many := slices.Repeat([][]int{{3}}, 32)
	for _, x := range []struct {
		l    [][]int
		want api.Attr
	}{
		{[][]int{{1}, {44}}, api.Attr{Back: blue, Flags: api.Bold}},
		{[][]int{{4, 2}}, api.Attr{Back: blue, Flags: api.Bold | api.Double}},
		{[][]int{{-5}, {31}}, api.Attr{Fore: red}}, // no number is 0
		{[][]int{{1}}, api.Attr{Fore: red, Flags: api.Bold}},
		{[][]int{{7}, {}, {9}}, api.Attr{Flags: api.Strike}}, // neither is a group without any
		{nil, api.Attr{}},
		{append(slices.Clone(many), []int{1}), api.Attr{Flags: api.Italic}}, // what is left out
		{[][]int{{38, 2, 1, 0, 0, 255, 0, 0, 9}}, api.Attr{Flags: api.Italic}},
		{[][]int{}, api.Attr{}},
	} {
		s.Turn(x.l)
		if got := s.State().Attr; got != x.want {
			t.Errorf("Turn(%v): %+v, not %+v", x.l, got, x.want)
		}
	}
}

func TestKeepAndRestore(t *testing.T) {
	s := newScreen(t, 4, 5, 0)
	lines := chars.New().Name("(", '0').Lock('N')
	s.Turn([][]int{{31}})
	s.Chars(lines)
	s.Margins(1, 2)
	s.Set(api.Opts{Put: true, Home: true})
	s.Move(1, 3)
	s.Keep()

	s.Turn(nil)
	s.Chars(chars.New())
	s.Set(api.Opts{Wrap: true})
	s.Margins(0, 3)
	s.Move(0, 1)
	s.Restore()
	want := screen.State{At: pos(2, 3), Attr: api.Attr{Fore: red}, Chars: lines, Opts: api.Opts{Wrap: true, Home: true}, Bottom: 3, Kept: true}
	if got := s.State(); got != want {
		t.Errorf("%+v, not %+v", got, want)
	}
	s.Move(0, 0)
	s.Restore() // it is kept still
	if got := s.State(); got != want {
		t.Errorf("again: %+v, not %+v", got, want)
	}
}

func TestRestoreOfNothing(t *testing.T) {
	s := newScreen(t, 4, 5, 0)
	s.Turn([][]int{{31}})
	s.Chars(chars.New().Name("(", '0').Lock('N'))
	s.Margins(1, 2)
	s.Set(api.Opts{Put: true, Home: true})
	s.Move(1, 3)
	s.Restore()
	want := screen.State{Chars: chars.New(), Opts: api.Opts{Put: true}, Top: 1, Bottom: 2}
	if got := s.State(); got != want {
		t.Errorf("%+v, not %+v", got, want)
	}
}

func TestWhatIsKeptMayBeLikeNothing(t *testing.T) {
	s := newScreen(t, 2, 5, 0)
	s.Chars(chars.State{})
	s.Set(api.Opts{})
	s.Keep()
	if !s.State().Kept {
		t.Error("Kept")
	}
	s.Chars(chars.New())
	s.Restore()
	if got := s.State().Chars; got != (chars.State{}) {
		t.Errorf("%+v", got)
	}
}

func TestKeepAtTheEdge(t *testing.T) {
	s := newScreen(t, 2, 3, 0)
	prints(s, "abc")
	s.Keep()
	isAt(t, "Keep", s, pos(0, 3))
	s.Move(1, 1)
	s.Restore()
	isAt(t, "Restore", s, pos(0, 2))
}

func TestRestoreWhereThereIsNoSuchPlace(t *testing.T) {
	s := newScreen(t, 5, 9, 0)
	s.Move(4, 8)
	s.Keep()
	s.Resize(3, 4)
	s.Move(0, 0)
	s.Restore()
	isAt(t, "Restore of a greater screen's place", s, pos(2, 3))
	s.Resize(9, 20)
	s.Restore() // it is kept as it was
	isAt(t, "Restore", s, pos(4, 8))
	s.Crop(2, 2)
	s.Restore()
	isAt(t, "Restore of a greater screen's place", s, pos(1, 1))
}

func TestFill(t *testing.T) {
	s := newScreen(t, 3, 4, 9)
	s.Turn([][]int{{31}, {44}})
	prints(s, "abcdefghijklmn\u3042pq") // rows that go on, the first of the screen among them
	s.Margins(0, 1)
	s.Move(2, 2)
	s.Keep()
	was := s.State()
	s.Page().Shifts()
	s.Fill()
	shows(t, "Fill", s, pos(0, 0), 2, "abcd", "+efgh", "EEEE", "EEEE", "EEEE")
	for i := 2; i < 5; i++ {
		row, _ := s.Page().Row(i)
		for _, c := range row.Cells {
			if c != (api.Cell{R: 0x45}) {
				t.Fatalf("Fill: %+v", c)
			}
		}
	}
	if was.At, was.Bottom = pos(0, 0), 2; s.State() != was || len(s.Page().Shifts()) != 0 {
		t.Errorf("Fill: %+v, not %+v", s.State(), was)
	}
	s.Move(0, 0)
	s.Repeat(1) // what was printed last is q still
	shows(t, "Repeat", s, pos(0, 1), 2, "abcd", "+efgh", "qEEE", "EEEE", "EEEE")
}

func TestReset(t *testing.T) {
	s := newScreen(t, 4, 12, 2)
	s.Turn([][]int{{31}})
	s.Set(api.Opts{Put: true, Home: true})
	s.Margins(1, 2)
	s.Keep()
	prints(s, "abcdefghijk\u3042l")
	edge(s, 1)
	s.Chars(chars.New().Name("(", '0').Lock('N'))
	s.Stops().Set(3)
	before := lines(s.Page().All())
	s.Reset()
	want := first(4)
	want.At = pos(2, 12)
	if got := s.State(); got != want {
		t.Errorf("%+v, not %+v", got, want)
	}
	s.Repeat(5) // there is nothing that was printed last
	shows(t, "Reset", s, pos(2, 12), s.Page().Base(), before...)
	if !s.Stops().Has(3) {
		t.Error("the stops")
	}
	s.Restore()
	isAt(t, "Restore of nothing", s, pos(0, 0))
}

func TestFollow(t *testing.T) {
	s, o := newScreen(t, 4, 5, 0), newScreen(t, 9, 9, 3)
	o.Turn([][]int{{31}})
	lines := chars.New().Name(")", '0').Lock('O')
	o.Set(api.Opts{Put: true, Home: true})
	o.Move(1, 8)
	o.Print('a')
	o.Keep()
	o.Chars(lines)
	isAt(t, "at the edge", o, pos(1, 9))
	was := o.State()

	s.Margins(1, 2)
	s.Set(api.Opts{Wrap: true})
	s.Print('z')
	s.Follow(o)
	want := screen.State{At: pos(1, 4), Attr: api.Attr{Fore: red}, Chars: lines, Opts: api.Opts{Put: true, Home: true}, Top: 1, Bottom: 2}
	if got := s.State(); got != want {
		t.Errorf("%+v, not %+v", got, want)
	}
	if o.State() != was {
		t.Errorf("the other one: %+v, not %+v", o.State(), was)
	}
	s.Follow(nil)
	if got := s.State(); got != want {
		t.Errorf("Follow(nil): %+v, not %+v", got, want)
	}
	s.Move(0, 0)
	s.Repeat(1) // what was printed last is its own
	if r, _ := s.Page().Row(1); r.Cells[0].R != 'z' {
		t.Error("Repeat", line(r))
	}

	o.Set(api.Opts{})
	o.Move(8, 2)
	s.Follow(o)
	isAt(t, "a row that isn't there", s, pos(3, 2))
	wide := newScreen(t, 9, 20, 0)
	edge(o, 2)
	wide.Follow(o)
	isAt(t, "In of the other one", wide, pos(2, 8))
	edge(o, 3)
	o.Follow(o)
	isAt(t, "itself", o, pos(3, 8))
}

func TestResize(t *testing.T) {
	s := newScreen(t, 2, 4, 9)
	s.Stops().Set(3)
	prints(s, "abcdefgh")
	s.Margins(0, 1)
	edge(s, 1)
	l, e := s.Resize(3, 3, pos(0, 3), pos(1, 2), pos(9, 9))
	if e != api.OK || !slices.Equal(l, []api.Pos{pos(1, 0), pos(2, 0), pos(3, 0)}) {
		t.Errorf("Resize: %v, %v", l, e)
	}
	shows(t, "narrower", s, pos(2, 2), 0, "abc", "+def", "+ge_")
	if x := s.State(); x.Top != 0 || x.Bottom != 2 || !slices.Equal(s.Stops().List(), []int{0}) || s.Stops().Cols() != 3 {
		t.Errorf("the region %d to %d, stops %v", x.Top, x.Bottom, s.Stops().List())
	}
	s.Margins(1, 2)
	if l, e = s.Resize(2, 12); e != api.OK || len(l) != 0 {
		t.Errorf("Resize: %v, %v", l, e)
	}
	shows(t, "wider", s, pos(0, 0), 0, "abcdefge____", "____________")
	if x := s.State(); x.Top != 0 || x.Bottom != 1 || !slices.Equal(s.Stops().List(), []int{0, 8}) {
		t.Errorf("the region %d to %d, stops %v", x.Top, x.Bottom, s.Stops().List())
	}
}

func TestResizeOfTheEdge(t *testing.T) {
	s := newScreen(t, 3, 4, 9)
	prints(s, "abcd\u3042")
	edge(s, 0)
	s.Resize(3, 4)
	isAt(t, "as many columns", s, pos(0, 4))
	s = newScreen(t, 3, 4, 9)
	prints(s, "abcd")
	s.Resize(3, 8)
	isAt(t, "more columns", s, pos(0, 4))
	s.Resize(3, 4)
	isAt(t, "less columns", s, pos(0, 4))
	s.Resize(1, 2)
	shows(t, "at the edge", s, pos(0, 2), 1, "ab", "+cd")
}

func TestCrop(t *testing.T) {
	s := newScreen(t, 3, 4, 9)
	s.Stops().Set(1)
	prints(s, "abcdefghijklmno")
	s.Margins(1, 2)
	s.Move(1, 2)
	if e := s.Crop(2, 10); e != api.OK {
		t.Errorf("Crop: %v", e)
	}
	shows(t, "wider", s, pos(1, 2), 0, "efgh______", "ijkl______")
	if x := s.State(); x.Top != 0 || x.Bottom != 1 || !slices.Equal(s.Stops().List(), []int{0, 1, 8}) {
		t.Errorf("the region %d to %d, stops %v", x.Top, x.Bottom, s.Stops().List())
	}
	s.Move(1, 8)
	s.Crop(1, 5)
	shows(t, "the edge of fewer columns", s, pos(0, 5), 0, "efgh_")
	if x := s.State(); x.Top != 0 || x.Bottom != 0 || s.Stops().Cols() != 5 {
		t.Errorf("the region %d to %d, %d columns", x.Top, x.Bottom, s.Stops().Cols())
	}
	s.Crop(4, 5)
	isAt(t, "the edge of as many", s, pos(0, 5))
	s.Crop(4, 9)
	isAt(t, "the edge of more is none", s, pos(0, 5))
	s.Print('z')
	shows(t, "print", s, pos(0, 6), 0, "efgh_z___", "_________", "_________", "_________")
}

func TestResizeToWhatMayNotBe(t *testing.T) {
	b := newBoth(t, 3, 4, 2)
	b.print("abcdefghijklmno")
	b.margins(1, 2)
	b.move(1, 2)
	for _, x := range wrongSizes {
		if l, e := b.s.Resize(x[0], x[1], pos(0, 1)); len(l) != 0 || e != api.ErrArg {
			t.Errorf("Resize(%v): %v, %v", x, l, e)
		}
		if e := b.s.Crop(x[0], x[1]); e != api.ErrArg {
			t.Errorf("Crop(%v): %v", x, e)
		}
		b.check("no such size", x)
	}
}

func TestGreatestScreen(t *testing.T) {
	s := newScreen(t, 1000, 1000, 2)
	s.Move(math.MaxInt, math.MaxInt)
	s.Print('a')
	s.Go(math.MinInt, 0)
	s.Tab(-1)
	isAt(t, "Tab", s, pos(0, 992))
	s.ErasePage(2)
	s.Scroll(math.MaxInt)
	isRight(t, s)
	if s.Page().Base() != 2 {
		t.Errorf("base %d", s.Page().Base())
	}
}

// everything does whatever may be done to a screen, but for what takes other things than numbers.
func everything(s *screen.Screen, n, k int) {
	s.Move(n, k)
	s.Go(n, k)
	s.Margins(n, k)
	s.Tab(n)
	s.Repeat(n)
	s.EraseLine(n)
	s.ErasePage(n)
	s.EraseChars(n)
	s.InsertChars(n)
	s.DeleteChars(n)
	s.InsertLines(n)
	s.DeleteLines(n)
	s.Scroll(n)
	s.Back()
	s.Feed()
	s.FeedBack()
	s.Keep()
	s.Restore()
	s.Follow(s)
	s.Follow(nil)
	s.Return()
	s.Turn([][]int{{n}, nil, {k}})
	s.Chars(chars.State{Sets: [4]int{n, k}, Use: n, Once: k})
	s.Set(api.Opts{Put: n%2 == 0, Wrap: k%2 == 0})
	s.Print(rune(n))
	prints(s, "a\u3042\u0301\a")
	s.Fill()
	s.Reset()
}

func TestNilScreen(t *testing.T) {
	var s *screen.Screen
	for _, n := range append(far, 0, 1, 5) {
		everything(s, n, n)
	}
	if s.Page() != nil || s.Stops() != nil || s.State() != (screen.State{}) {
		t.Error("Page, Stops, State")
	}
	for _, x := range append(wrongSizes, [2]int{5, 5}) {
		if l, e := s.Resize(x[0], x[1], pos(1, 1)); len(l) != 0 || e != api.ErrArg {
			t.Errorf("Resize(%v): %v, %v", x, l, e)
		}
		if e := s.Crop(x[0], x[1]); e != api.ErrArg {
			t.Errorf("Crop(%v): %v", x, e)
		}
	}
	o := newScreen(t, 2, 3, 0)
	s.Follow(o)
	if o.State() != first(2) {
		t.Error("Follow")
	}
}

// TestWhoHasThePageMayChangeIt holds what the screen does to a page and to stops that were made another size behind its back: it ends.
func TestWhoHasThePageMayChangeIt(t *testing.T) {
	for _, n := range append(far, 0, 1, 5, 30) {
		s := newScreen(t, 5, 9, 2)
		s.Margins(2, 4)
		edge(s, 4)
		s.Page().Crop(2, 3)
		everything(s, n, 2)
		s.Page().Resize(7, 20, pos(1, 1))
		everything(s, 3, n)
		isRight(t, s, n)
	}
	s := newScreen(t, 2, 9, 0)
	s.Stops().Size(90)
	s.Tab(9)
	isAt(t, "Tab to where there is no column", s, pos(0, 8))
}

func TestWhatIsHandedInStays(t *testing.T) {
	s := newScreen(t, 2, 4, 9)
	l := [][]int{{1, 99999}, nil, {-7}}
	s.Turn(l)
	if !reflect.DeepEqual(l, [][]int{{1, 99999}, nil, {-7}}) {
		t.Errorf("Turn: %v", l)
	}
	for _, cols := range []int{4, 3} {
		all := []api.Pos{pos(0, 2), pos(9, 9), pos(7, 7)}
		m, _ := s.Resize(2, cols, all[:2]...)
		m[0] = pos(5, 5)
		m = append(m, pos(6, 6))
		if !slices.Equal(all, []api.Pos{pos(0, 2), pos(9, 9), pos(7, 7)}) || len(m) != 3 {
			t.Errorf("Resize: %v", all)
		}
	}
}
