package term_test

import (
	"math"
	"slices"
	"strings"
	"testing"

	"marquee/api"
	"marquee/mode"
	"marquee/screen"
	"marquee/term"
	"marquee/utf"
)

func newTerm(t *testing.T, rows, cols, lines, payload int) *term.Term {
	t.Helper()
	x, e := term.New(rows, cols, lines, payload)
	if e != api.OK || x == nil {
		t.Fatalf("New(%d, %d, %d, %d): %v", rows, cols, lines, payload, e)
	}
	return x
}

// small is a terminal of 3 rows and 6 columns, with a history of 4 rows, that was fed.
func small(t *testing.T, fed string) *term.Term {
	t.Helper()
	x := newTerm(t, 3, 6, 4, 99)
	x.Feed([]byte(fed))
	return x
}

func pos(row, col int) api.Pos {
	return api.Pos{Row: row, Col: col}
}

// line is a row as text: + ahead: it is Cont; _ is a cell in which nothing was written, . one of them that has a color, | a Pad.
func line(row api.Row) string {
	var s string
	if row.Cont {
		s = "+"
	}
	for _, c := range row.Cells {
		switch {
		case c.Half == api.Pad:
			s += "|"
		case c.Half == api.Right:
		case c.R == 0 && c.Attr != api.Attr{}:
			s += "."
		case c.R == 0:
			s += "_"
		default:
			s += utf.Put(c.R) + c.More
		}
	}
	return s
}

// seen is a screen's document as text, a / between rows, and // between the history and the screen.
func seen(s *screen.Screen) string {
	var l []string
	for i, row := range s.Page().All() {
		if i == s.Page().Base() && i > 0 {
			l = append(l, "")
		}
		l = append(l, line(row))
	}
	return strings.Join(l, "/")
}

// shows holds the cursor and the document of the screen in use against what is wanted.
func shows(t *testing.T, x *term.Term, what string, at api.Pos, want string) {
	t.Helper()
	if got := seen(x.Screen()); got != want || x.Screen().State().At != at {
		t.Errorf("%q: at %v: %s, not %v: %s", what, x.Screen().State().At, got, at, want)
	}
}

func told(sign api.Sign, row, col int) term.Change {
	return term.Change{Told: true, Signal: api.Signal{Sign: sign, At: pos(row, col)}}
}

func done(kind, at, n int) term.Change {
	return term.Change{Shift: api.Shift{Kind: kind, At: at, N: n}}
}

func TestNew(t *testing.T) {
	x := newTerm(t, 3, 6, 4, 9)
	first := screen.State{Chars: x.First().State().Chars, Opts: api.Opts{Wrap: true}, Bottom: 2}
	if first.Chars.Sets != [4]int{'B', 'B', 'B', 'B'} {
		t.Error("sets", first.Chars)
	}
	if x.Screen() != x.First() || x.Other() || x.Screen().State() != first || x.Modes() != mode.New() || x.Title() != "" || x.Reply() != "" || len(x.Changes()) != 0 || !x.Rest() {
		t.Error("a new one")
	}
	shows(t, x, "a new one", pos(0, 0), "______/______/______")
	for range 9 {
		x.Feed([]byte("\n"))
	}
	if x.First().Page().Base() != 4 {
		t.Error("the first one's history", x.First().Page().Base())
	}
	x.Feed([]byte("\x1b[?47h\n\n\n\n\n"))
	if x.Screen() == x.First() || x.Screen().Page().Base() != 0 || x.Screen().Page().Gone() == 0 {
		t.Error("the other one's history", x.Screen().Page().Base())
	}
}

func TestNewOfWhatMayNotBe(t *testing.T) {
	for _, x := range [][4]int{
		{0, 6, 4, 9}, {1001, 6, 4, 9}, {-1, 6, 4, 9}, {math.MinInt, 6, 4, 9}, {math.MaxInt, 6, 4, 9},
		{3, 1, 4, 9}, {3, 1001, 4, 9}, {3, 0, 4, 9}, {3, math.MinInt, 4, 9}, {3, math.MaxInt, 4, 9},
		{3, 6, -1, 9}, {3, 6, 100001, 9}, {3, 6, math.MinInt, 9}, {3, 6, math.MaxInt, 9},
		{3, 6, 4, 0}, {3, 6, 4, -1}, {3, 6, 4, 65537}, {3, 6, 4, math.MinInt}, {3, 6, 4, math.MaxInt},
		{0, 0, -1, 0},
	} {
		if x1, e := term.New(x[0], x[1], x[2], x[3]); x1 != nil || e != api.ErrArg {
			t.Errorf("New(%v): %v, %v", x, x1, e)
		}
	}
	for _, x := range [][4]int{{1, 2, 0, 1}, {1000, 2, 100000, 65536}, {1, 1000, 0, 1}} {
		newTerm(t, x[0], x[1], x[2], x[3])
	}
}

func TestReplyWaitsNoMore(t *testing.T) {
	x := small(t, "ab\x1b[6n\x1b[")
	x.Feed([]byte("5n"))
	if got := x.Reply(); got != "\x1b[1;3R\x1b[0n" {
		t.Errorf("Reply: %q", got)
	}
	if got := x.Reply(); got != "" {
		t.Errorf("again: %q", got)
	}
	x.Feed([]byte("\x1b[5n"))
	if got := x.Reply(); got != "\x1b[0n" {
		t.Errorf("another one: %q", got)
	}
}

func TestTitle(t *testing.T) {
	long := strings.Repeat("t", 300)
	for _, x := range [][2]string{
		{"\x1b]0;a\a", "a"},
		{"\x1b]2;a;b\x1b\\", "a;b"},
		{"\x1b]2;a\a\x1b]0;\a", ""},
		{"\x1b]2;a\a\x1b]1;b\a\x1b]0\a\x1b]133;A\a", "a"}, // they say nothing of it
		{"\x1b]2;a\a\x1b[?1049h\x1b]2;b\a", "b"},
		{"\x1b]2;" + long + "\a", long[:256]},
		{"\x1b]2;a", ""}, // it hasn't ended
		{"\x1b]2;a\x18", ""},
	} {
		term := newTerm(t, 3, 6, 4, 400)
		if term.Feed([]byte(x[0])); term.Title() != x[1] {
			t.Errorf("%q: %q, not %q", x[0], term.Title(), x[1])
		}
		if strings.Contains(x[0], "133") != (len(term.Changes()) > 0) {
			t.Errorf("%q: changes", x[0])
		}
	}
}

func TestRest(t *testing.T) {
	for _, x := range []struct {
		fed  string
		want bool
	}{
		{"", true}, {"a", true}, {"\xe3", false}, {"\xe3\x81\x82", true}, {"\xe3\x1b", false},
		{"\x1b", false}, {"\x1b(", false}, {"\x1b(0", true}, {"\x1b[", false}, {"\x1b[1m", true},
		{"\x1b]", false}, {"\x1b]2;a", false}, {"\x1b]2;a\a", true}, {"\x1b]2;a\x1b", false}, {"\x1b]2;a\x1b\\", true},
		{"\x1bP", false}, {"\x1bP$qm\x1b\\", true}, {"\x1b^", false}, {"\x1b^a\x18", true},
	} {
		if got := small(t, x.fed).Rest(); got != x.want {
			t.Errorf("%q: %v", x.fed, got)
		}
	}
}

func TestChanges(t *testing.T) {
	prompt, point := api.Sign{Kind: api.SignPrompt}, api.Sign{Kind: api.SignPoint}
	for _, x := range []struct {
		fed  string
		want []term.Change
	}{
		{"", nil},
		{"a\r\n\x1b[31m\x1b]2;title\a\x1b]99;x\a", nil},
		{"\x1b]133;A\a", []term.Change{told(prompt, 0, 0)}},
		{"\x1b]133;A\x1b\\", []term.Change{told(prompt, 0, 0)}},
		{"abcdef\x1b]133;A\a", []term.Change{told(prompt, 0, 6)}}, // at the edge
		{"\x1b[2;3H\x1b]1337;SetMark\a", []term.Change{told(point, 1, 2)}},
		{"\n\n\na\x1b]133;B\a", []term.Change{done(api.Insert, 3, 1), told(api.Sign{Kind: api.SignInput}, 3, 1)}},
		{"\x1b]633;C\a\x1b]133;D;7\a\x1b]133;D\a", []term.Change{
			told(api.Sign{Kind: api.SignOutput}, 0, 0), told(api.Sign{Kind: api.SignDone, Code: 7, Has: true}, 0, 0), told(api.Sign{Kind: api.SignDone}, 0, 0),
		}},
		{"\x1b]633;E;ls\\x20-l\a\x1b]7;file://h/a%20b\a", []term.Change{told(api.Sign{Kind: api.SignLine, Text: "ls -l"}, 0, 0), told(api.Sign{Kind: api.SignDir, Text: "/a b"}, 0, 0)}},
		{"\n\n\x1b]133;A\a\n\x1b]133;A\a\n\n\n\n\x1b]133;A\a", []term.Change{
			told(prompt, 2, 0), done(api.Insert, 3, 1), told(prompt, 3, 0),
			done(api.Insert, 4, 1), done(api.Insert, 5, 1), done(api.Insert, 6, 1),
			done(api.Insert, 7, 1), done(api.Evict, 0, 1), told(prompt, 6, 0),
		}},
		{"\x1b[2;3r\x1b[S\x1b]133;A\a\x1b[2T", []term.Change{
			done(api.Delete, 1, 1), done(api.Insert, 2, 1), told(prompt, 0, 0),
			done(api.Delete, 2, 1), done(api.Insert, 1, 1), done(api.Delete, 2, 1), done(api.Insert, 1, 1),
		}},
		{"\n\n\n\n\x1b[3J", []term.Change{done(api.Insert, 3, 1), done(api.Insert, 4, 1), done(api.Evict, 0, 2)}},
		{"\x1b[?47h\n\n\n\n\x1b[L\x1b]133;A\a", nil}, // nothing of the other screen's
		{"\x1b[?1049h\x1b]133;A\a\x1b[?1049l\x1b]1337;SetMark\a", []term.Change{told(point, 0, 0)}},
		{"\x1b]133;A\x18\x1b]133;A", nil}, // none has ended
	} {
		if got := small(t, x.fed).Changes(); !slices.Equal(got, x.want) {
			t.Errorf("%q: %v, not %v", x.fed, got, x.want)
		}
	}
}

func TestChangesWaitNoMore(t *testing.T) {
	x := small(t, "\n\n\n\x1b]133;A\a")
	if l := x.Changes(); len(l) != 2 {
		t.Error(l)
	}
	if l := x.Changes(); len(l) != 0 {
		t.Error("again", l)
	}
	x.Feed([]byte("\n"))
	x.First().Page().Shifts() // who looks there takes none away
	x.Feed([]byte("\x1b]133;A\a"))
	if l := x.Changes(); len(l) != 2 || l[0].Shift.At != 4 || l[1].Signal.At != pos(4, 0) {
		t.Error(l)
	}
	x.First().Feed() // it is its own screen
	if l := x.Changes(); !slices.Equal(l, []term.Change{done(api.Insert, 5, 1)}) {
		t.Error(l)
	}
}

func TestNoChangesOfTheOtherScreenAreKept(t *testing.T) {
	x := small(t, "\x1b[?47h\n\n\n\n")
	if l := x.Screen().Page().Shifts(); len(l) != 0 || x.Screen().Page().Gone() == 0 {
		t.Error(l)
	}
}

func TestWhatIsCutSaysNothing(t *testing.T) {
	x := newTerm(t, 3, 6, 4, 5)
	x.Feed([]byte("\x1b]133;A\a\x1b]2;abc\a"))
	if l := x.Changes(); len(l) != 1 || x.Title() != "abc" {
		t.Error("as long as may be", l, x.Title())
	}
	x.Feed([]byte("\x1b]133;AB\a\x1b]133;A;\a\x1b]2;abcd\a"))
	if l := x.Changes(); len(l) != 0 || x.Title() != "abc" {
		t.Error("longer", l, x.Title())
	}
}

func TestResize(t *testing.T) {
	x := small(t, "abcdefgh\r\nij\x1b]133;A\a\n\n")
	x.Feed([]byte("\x1b[?47h\x1b[Hwxyz\x1b[?47l\x1b[3;3H"))
	places, e := x.Resize(2, 4, pos(0, 5), pos(1, 1), pos(2, 1), pos(9, 9))
	if e != api.OK || !slices.Equal(places, []api.Pos{pos(1, 1), pos(1, 3), pos(2, 1), pos(5, 0)}) {
		t.Error("Resize", places, e)
	}
	shows(t, x, "narrower", pos(1, 2), "abcd/+efgh/ij__//____/____")
	if l := x.Changes(); len(l) != 0 {
		t.Error("what waited", l)
	}
	x.Feed([]byte("\x1b[?47h"))
	shows(t, x, "the other one", pos(1, 2), "wxyz/____")

	places, e = x.Resize(1, 9, pos(1, 1))
	if e != api.OK || !slices.Equal(places, []api.Pos{pos(0, 5)}) {
		t.Error("Resize of the first one, whichever is in use", places, e)
	}
	shows(t, x, "the other one", pos(0, 2), "wxyz_____")
	x.Feed([]byte("\x1b[?47l"))
	if got := seen(x.First()); got != "abcdefgh_/ij_______/_________//_________" {
		t.Error("the first one", got)
	}
}

func TestResizeTellsWhatItLeaves(t *testing.T) {
	x := small(t, "abcdefghijklmnopqrstuvwxyz0123456789\x1b]133;A\a")
	if x.First().Page().Base() != 3 {
		t.Fatal("base", x.First().Page().Base())
	}
	places, e := x.Resize(2, 3, pos(0, 0), pos(5, 5))
	if e != api.OK || len(places) != 2 {
		t.Fatal(places, e)
	}
	x.First().Page().Shifts() // who looks there takes none away
	if l, want := x.Changes(), []term.Change{done(api.Evict, 0, 6)}; !slices.Equal(l, want) || x.First().Page().Base() != 4 {
		t.Error("Changes", l, want, x.First().Page().Base())
	}
	if l := x.Changes(); len(l) != 0 {
		t.Error("again", l)
	}
}

func TestResizeToWhatMayNotBe(t *testing.T) {
	x := small(t, "abcdefgh\n\n\n\x1b]133;A\a\x1b[5n")
	was := seen(x.First())
	for _, size := range [][2]int{
		{0, 6}, {-1, 6}, {1001, 6}, {math.MinInt, 6}, {math.MaxInt, 6},
		{3, 1}, {3, 0}, {3, 1001}, {3, math.MinInt}, {3, math.MaxInt}, {0, 0},
	} {
		if l, e := x.Resize(size[0], size[1], pos(0, 0)); len(l) != 0 || e != api.ErrArg {
			t.Errorf("Resize(%v): %v, %v", size, l, e)
		}
	}
	if seen(x.First()) != was || len(x.Changes()) != 3 || x.Reply() == "" {
		t.Error("something has changed")
	}
}

func TestResizeKeepsWhatWasBegun(t *testing.T) {
	x := small(t, "ab\x1b[3")
	x.Resize(4, 9)
	if x.Rest() {
		t.Error("Rest")
	}
	x.Feed([]byte("1mc"))
	if x.Screen().State().Attr.Fore != (api.Color{Kind: 1, N: 1}) {
		t.Error("what was begun")
	}
	shows(t, x, "wider", pos(0, 3), "abc______/_________/_________/_________")
}

func TestNilTerm(t *testing.T) {
	var x *term.Term
	x.Feed(nil)
	x.Feed([]byte("a\x1b[5n\x1b]133;A\a"))
	if x.Screen() != nil || x.First() != nil || x.Other() || x.Title() != "" || x.Reply() != "" || len(x.Changes()) != 0 || x.Rest() {
		t.Error("nil")
	}
	if x.Modes() != mode.New() {
		t.Error("Modes")
	}
	for _, size := range [][2]int{{3, 6}, {0, 0}} {
		if l, e := x.Resize(size[0], size[1], pos(0, 0)); len(l) != 0 || e != api.ErrArg {
			t.Error("Resize", l, e)
		}
	}
}

func TestWhatIsHandedInStays(t *testing.T) {
	x := small(t, "")
	all := []byte("a\x1b]2;title\a\x1b]633;E;line\abcdZZZ")
	was := string(all)
	part := all[:len(all)-3]
	x.Feed(part)
	if string(all) != was {
		t.Errorf("Feed: %q", all)
	}
	for i := range all {
		all[i] = '!'
	}
	if l := x.Changes(); x.Title() != "title" || len(l) != 1 || l[0].Signal.Sign.Text != "line" {
		t.Error("what was handed in is kept")
	}
	shows(t, x, "Feed", pos(0, 4), "abcd__/______/______")
	places := []api.Pos{pos(0, 1), pos(9, 9), pos(7, 7)}
	l, _ := x.Resize(3, 2, places[:2]...)
	l[0] = pos(5, 5)
	l = append(l, pos(6, 6))
	if !slices.Equal(places, []api.Pos{pos(0, 1), pos(9, 9), pos(7, 7)}) || len(l) != 3 {
		t.Error("Resize", places)
	}
}

func TestWhatIsAnsweredIsNew(t *testing.T) {
	x := small(t, "\x1b]133;A\a\x1b]133;B\a")
	l := x.Changes()
	x.Feed([]byte("\x1b]133;C\a\x1b]133;D\a"))
	m := append(l[:1], term.Change{})
	if got := x.Changes(); len(m) != 2 || len(got) != 2 || got[0].Signal.Sign.Kind != api.SignOutput || got[1].Signal.Sign.Kind != api.SignDone {
		t.Error("Changes", got)
	}
}
