package session_test

import (
	"math"
	"slices"
	"strings"
	"testing"

	"marquee/api"
	"marquee/session"
)

// Signs, as a shell sends them.
const (
	prompt = "\x1b]133;A\a"
	input  = "\x1b]133;B\a"
	output = "\x1b]133;C\a"
	done   = "\x1b]133;D\a"
	well   = "\x1b]133;D;0\a"
	fault  = "\x1b]133;D;7\a"
	mark   = "\x1b]1337;SetMark\a"
	two    = "\x1b[?1049h" // the other screen
	one    = "\x1b[?1049l"
)

// three is two commands that have ended, and a prompt, in rows 1 to 3, 4 to 7, and 8, behind one that is unmarked.
const three = "hi\r\n" +
	prompt + "$ " + input + "ls\x1b]633;E;ls\a\r\n" + output + "a\r\nb\r\n" + well +
	prompt + "$ " + input + "cat\x1b]633;E;cat\a\r\n" + output + "c\r\nd\r\ne\r\n" + fault +
	prompt + "$ " + input

// usual is a configuration in which nothing goes.
var usual = api.Config{Rows: 4, Cols: 10, Lines: 50, Blocks: 20, Marks: 20, Payload: 99}

func pos(row, col int) api.Pos {
	return api.Pos{Row: row, Col: col}
}

func newSession(t *testing.T, c api.Config) *session.Session {
	t.Helper()
	s, e := session.New(c)
	if e != api.OK || s == nil {
		t.Fatalf("New(%+v): %v", c, e)
	}
	return s
}

// fed is a session to which bytes came.
func fed(t *testing.T, c api.Config, all ...string) *session.Session {
	t.Helper()
	s := newSession(t, c)
	for _, text := range all {
		s.Feed([]byte(text))
	}
	return s
}

func usually(t *testing.T, all ...string) *session.Session {
	t.Helper()
	return fed(t, usual, all...)
}

// lines are rows as texts, of _ where nothing was written; of such as go on a + stands ahead.
func lines(rows []api.Row) []string {
	var l []string
	for _, row := range rows {
		var b strings.Builder
		if row.Cont {
			b.WriteByte('+')
		}
		for _, c := range row.Cells {
			switch {
			case c.Half == api.Right:
			case c.Half == api.Pad:
				b.WriteByte('|')
			case c.R == 0:
				b.WriteByte('_')
			default:
				b.WriteString(string(c.R) + c.More)
			}
		}
		l = append(l, strings.TrimRight(b.String(), "_"))
	}
	return l
}

// rows wants the document's rows.
func rows(t *testing.T, s *session.Session, want ...string) {
	t.Helper()
	if got := lines(s.Rows()); !slices.Equal(got, want) {
		t.Errorf("Rows: %q, not %q", got, want)
	}
}

// blocks wants the list.
func blocks(t *testing.T, s *session.Session, want ...api.Block) {
	t.Helper()
	if got := s.Blocks(); !slices.Equal(got, want) {
		t.Errorf("Blocks:\n%+v, not\n%+v", got, want)
	}
}

// points wants the points.
func points(t *testing.T, s *session.Session, want ...api.Pos) {
	t.Helper()
	if got := s.Points(); !slices.Equal(got, want) {
		t.Errorf("Points: %v, not %v", got, want)
	}
}

func isSameRow(a, b api.Row) bool {
	return a.Cont == b.Cont && slices.Equal(a.Cells, b.Cells)
}

// unmarked is the block of what is ahead of all others.
func unmarked(stop api.Pos) api.Block {
	return api.Block{Input: stop, Output: stop, Done: stop, Stop: stop}
}

func TestNew(t *testing.T) {
	change := func(do func(c *api.Config)) api.Config {
		c := usual
		do(&c)
		return c
	}
	for _, n := range []int{math.MinInt, -1, math.MaxInt} {
		for _, c := range []api.Config{
			{},
			change(func(c *api.Config) { c.Rows = n }),
			change(func(c *api.Config) { c.Cols = n }),
			change(func(c *api.Config) { c.Lines = n }),
			change(func(c *api.Config) { c.Blocks = n }),
			change(func(c *api.Config) { c.Marks = n }),
			change(func(c *api.Config) { c.Payload = n }),
			change(func(c *api.Config) { c.Rows = 0 }),
			change(func(c *api.Config) { c.Rows = 1001 }),
			change(func(c *api.Config) { c.Cols = 1 }),
			change(func(c *api.Config) { c.Cols = 1001 }),
			change(func(c *api.Config) { c.Lines = 100001 }),
			change(func(c *api.Config) { c.Blocks = 0 }),
			change(func(c *api.Config) { c.Blocks = 10001 }),
			change(func(c *api.Config) { c.Marks = 0 }),
			change(func(c *api.Config) { c.Marks = 10001 }),
			change(func(c *api.Config) { c.Payload = 0 }),
			change(func(c *api.Config) { c.Payload = 65537 }),
		} {
			if s, e := session.New(c); s != nil || e != api.ErrArg {
				t.Errorf("New(%+v): %v, %v", c, s, e)
			}
		}
	}
	for _, c := range []api.Config{
		{Rows: 1, Cols: 2, Lines: 0, Blocks: 1, Marks: 1, Payload: 1},
		{Rows: 1000, Cols: 1000, Lines: 100000, Blocks: 10000, Marks: 10000, Payload: 65536},
	} {
		s := newSession(t, c)
		blocks(t, s, unmarked(pos(c.Rows, 0)))
		points(t, s)
		p := s.Term().Screen().Page()
		if len(s.Rows()) != c.Rows || p.Rows() != c.Rows || p.Cols() != c.Cols || len(s.Lines()) != 0 || len(s.Folded()) != 0 || s.Reply() != "" {
			t.Errorf("New(%+v)", c)
		}
		if items, top := s.View(); len(items) != c.Rows || top != 0 {
			t.Errorf("View of New(%+v): %d items from %d on", c, len(items), top)
		}
	}
}

func TestExample(t *testing.T) {
	s := usually(t, "\x1b]133;C\aa\r\n\x1b]133;D;0\a")
	if got, cut, e := s.Copy(1, api.PartOutput); got != "a\n" || cut || e != api.OK {
		t.Errorf("%q, %v, %v", got, cut, e)
	}
}

func TestBlocks(t *testing.T) {
	s := usually(t, three)
	rows(t, s, "hi", "$ ls", "a", "b", "$ cat", "c", "d", "e", "$ ")
	end := pos(9, 0)
	blocks(t, s, unmarked(pos(1, 0)),
		api.Block{Id: 1, Phase: api.Ended, Start: pos(1, 0), Input: pos(1, 2), Output: pos(2, 0), Done: pos(4, 0), Stop: pos(4, 0), Has: true, Line: "ls"},
		api.Block{Id: 2, Phase: api.Ended, Start: pos(4, 0), Input: pos(4, 2), Output: pos(5, 0), Done: pos(8, 0), Stop: pos(8, 0), Code: 7, Has: true, Line: "cat"},
		api.Block{Id: 3, Phase: api.Input, Start: pos(8, 0), Input: pos(8, 2), Output: end, Done: end, Stop: end},
	)
	s.Feed([]byte("\x1b]7;file:///d\apwd\r\n" + output))
	end = pos(10, 0)
	if got := s.Blocks()[3]; got != (api.Block{Id: 3, Phase: api.Output, Start: pos(8, 0), Input: pos(8, 2), Output: pos(9, 0), Done: end, Stop: end, Dir: "/d"}) {
		t.Errorf("%+v", got)
	}
	s.Feed([]byte("/d\r\n" + done + prompt))
	end = pos(11, 0)
	if l := s.Blocks(); l[3].Has || l[3].Done != pos(10, 0) || l[4] != (api.Block{Id: 4, Phase: api.Prompt, Start: pos(10, 0), Input: end, Output: end, Done: end, Stop: end, Dir: "/d"}) {
		t.Errorf("%+v", l[3:])
	}
}

// TestChangesInOrder: what was done to rows ahead of a sign, and behind it, moves just those places that were there.
func TestChangesInOrder(t *testing.T) {
	small := usual
	small.Lines = 2
	s := fed(t, small, "a\r\nb\r\n"+prompt+"c\r\n\x1b[2;1H\x1b[L"+mark+input+"\x1b[M\x1b[4;1H\n\n\n"+mark+output)
	rows(t, s, "b", "c", "", "", "", "") // a was evicted
	blocks(t, s, unmarked(pos(1, 0)), api.Block{Id: 1, Phase: api.Output, Start: pos(1, 0), Input: pos(1, 0), Output: pos(5, 0), Done: pos(6, 0), Stop: pos(6, 0)})
	points(t, s, pos(0, 0), pos(5, 0))
}

func TestPoints(t *testing.T) {
	s := usually(t, "a\r\nbc"+mark+"\x1b[H"+mark+"\x1b[2;2H"+mark)
	points(t, s, pos(0, 0), pos(1, 1), pos(1, 2))
	blocks(t, s, unmarked(pos(4, 0))) // they are no signs of blocks
	s.Feed([]byte("\x1b[H\x1b[L"))
	points(t, s, pos(1, 0), pos(2, 1), pos(2, 2))
	s.Feed([]byte("\x1b[2;4r\x1b[2;1H\x1b[M"))
	points(t, s, pos(1, 0), pos(1, 1), pos(1, 2))
	s.Feed([]byte("\x1b[r\x1b[4;1H\n\n\n\n\n\x1b[3J"))
	points(t, s) // their rows went with the history

	few := usual
	few.Marks = 2
	s = fed(t, few, "a"+mark+"\r\nb"+mark+"\x1b[H"+mark)
	points(t, s, pos(0, 0), pos(1, 1)) // the eldest one went
}

// TestEvict: where there is no room blocks go, or are cut, and what was folded of them isn't kept.
func TestEvict(t *testing.T) {
	small := usual
	small.Lines = 1
	s := newSession(t, small)
	s.Feed([]byte(prompt + "p" + input + "\r\n" + output + "a\r\nb\r\n" + well))
	if e := s.Fold(1, true); e != api.OK {
		t.Error("Fold", e)
	}
	s.Feed([]byte(prompt + "p\r\n" + output + "c\r\n"))
	rows(t, s, "a", "b", "p", "c", "")
	blocks(t, s, unmarked(pos(0, 0)),
		api.Block{Id: 1, Phase: api.Ended, Input: pos(0, 0), Output: pos(0, 0), Done: pos(2, 0), Stop: pos(2, 0), Has: true, Cut: true},
		api.Block{Id: 2, Phase: api.Output, Start: pos(2, 0), Input: pos(3, 0), Output: pos(3, 0), Done: pos(5, 0), Stop: pos(5, 0)})
	if got, cut, e := s.Copy(1, api.PartOutput); got != "a\nb\n" || !cut || e != api.OK {
		t.Errorf("Copy: %q, %v, %v", got, cut, e)
	}
	s.Feed([]byte("d\r\n"))
	if got, cut, _ := s.Copy(1, api.PartOutput); got != "b\n" || !cut {
		t.Errorf("Copy of what is left: %q, %v", got, cut)
	}
	if l := s.Folded(); !slices.Equal(l, []uint64{1}) {
		t.Error("Folded", l)
	}
	s.Feed([]byte("e\r\n"))
	if l := s.Folded(); len(l) != 0 || len(s.Blocks()) != 2 {
		t.Error("Folded", l)
	}
	if _, _, e := s.Copy(1, api.PartOutput); e != api.ErrNone {
		t.Error("Copy of one that has gone", e)
	}
	if e := s.Fold(1, true); e != api.ErrNone || len(s.Folded()) != 0 {
		t.Error("Fold of one that has gone", e)
	}
}

// TestMostBlocks: where there may be no more, the eldest goes; the others stay folded as they are.
func TestMostBlocks(t *testing.T) {
	few := usual
	few.Blocks = 2
	s := fed(t, few, prompt+"a\r\n"+prompt+"b\r\n")
	s.Fold(1, true)
	s.Fold(2, true)
	s.Feed([]byte(prompt + "c"))
	blocks(t, s, unmarked(pos(1, 0)),
		api.Block{Id: 2, Phase: api.Prompt, Start: pos(1, 0), Input: pos(2, 0), Output: pos(2, 0), Done: pos(2, 0), Stop: pos(2, 0)},
		api.Block{Id: 3, Phase: api.Prompt, Start: pos(2, 0), Input: pos(4, 0), Output: pos(4, 0), Done: pos(4, 0), Stop: pos(4, 0)})
	if l := s.Folded(); !slices.Equal(l, []uint64{2}) {
		t.Error("Folded", l)
	}
	s.Feed([]byte(prompt + prompt + prompt))
	if l := s.Folded(); len(l) != 0 {
		t.Error("Folded", l)
	}
}

func TestSize(t *testing.T) {
	s := usually(t, "xy\r\n"+prompt+"$ "+input+"abcdef\r\n"+output+"ghij"+mark+"klmnop\r\n"+well+mark)
	if e := s.Size(3, 4); e != api.OK {
		t.Fatal(e)
	}
	rows(t, s, "xy", "$ ab", "+cdef", "ghij", "+klmn", "+op", "")
	ended := api.Block{Id: 1, Phase: api.Ended, Start: pos(1, 0), Input: pos(1, 2), Output: pos(3, 0), Done: pos(6, 0), Stop: pos(7, 0), Has: true}
	blocks(t, s, unmarked(pos(1, 0)), ended)
	points(t, s, pos(4, 0), pos(6, 0))
	for _, size := range [][2]int{{0, 4}, {-1, 4}, {1001, 4}, {math.MaxInt, 4}, {3, 1}, {3, math.MinInt}, {3, 1001}, {0, 0}} {
		if e := s.Size(size[0], size[1]); e != api.ErrArg {
			t.Errorf("Size(%v): %v", size, e)
		}
	}
	rows(t, s, "xy", "$ ab", "+cdef", "ghij", "+klmn", "+op", "")
	blocks(t, s, unmarked(pos(1, 0)), ended)
	if e := s.Size(4, 20); e != api.OK {
		t.Fatal(e)
	}
	rows(t, s, "xy", "$ abcdef", "ghijklmnop", "")
	points(t, s, pos(2, 4), pos(3, 0))
	blocks(t, s, unmarked(pos(1, 0)), api.Block{Id: 1, Phase: api.Ended, Start: pos(1, 0), Input: pos(1, 2), Output: pos(2, 0), Done: pos(3, 0), Stop: pos(4, 0), Has: true})
}

// TestSizeEvicts: rows for which there is no room any more go, behind the places' own way.
func TestSizeEvicts(t *testing.T) {
	small := usual
	small.Lines = 2
	s := fed(t, small, prompt+"abcdef\r\n"+prompt+"ghijkl"+mark+"\r\n"+output+"m")
	s.Fold(1, true)
	if e := s.Size(1, 2); e != api.OK {
		t.Fatal(e)
	}
	rows(t, s, "+ij", "+kl", "m")
	blocks(t, s, unmarked(pos(0, 0)), api.Block{Id: 2, Phase: api.Output, Input: pos(2, 0), Output: pos(2, 0), Done: pos(3, 0), Stop: pos(3, 0), Cut: true})
	points(t, s, pos(1, 2))
	if l := s.Folded(); len(l) != 0 {
		t.Error("Folded", l)
	}
	if l := s.Term().Changes(); len(l) != 0 {
		t.Error("changes that didn't come", l)
	}
}

func TestReplyAndTerm(t *testing.T) {
	s := usually(t, "ab\x1b[6n\x1b]2;here\a", "\x1b[5n")
	if got := s.Reply(); got != "\x1b[1;3R\x1b[0n" {
		t.Errorf("Reply: %q", got)
	}
	if got := s.Reply(); got != "" {
		t.Errorf("Reply again: %q", got)
	}
	if x := s.Term(); x.Title() != "here" || x != s.Term() || x.First().State().At != pos(0, 2) {
		t.Error("Term")
	}
}

func TestLines(t *testing.T) {
	line := func(text string) string { return "\x1b]633;E;" + text + "\a" }
	s := usually(t, line("none"), prompt, line("a"), input, line("b"), output, well, line("late"), prompt, input, output, well, output, line("b"))
	if l := s.Lines(); !slices.Equal(l, []string{"b", "b"}) {
		t.Errorf("%q", l)
	}
	if l := usually(t, "ls").Lines(); len(l) != 0 {
		t.Errorf("%q", l)
	}
}

// TestTermIsFedByItself: what waits of its changes comes when bytes do, even if these are none.
func TestTermIsFedByItself(t *testing.T) {
	s := newSession(t, usual)
	s.Term().Feed([]byte("a\r\n" + prompt + mark))
	blocks(t, s, unmarked(pos(4, 0)))
	s.Feed(nil)
	points(t, s, pos(1, 0))
	if len(s.Blocks()) != 2 {
		t.Error("Blocks", s.Blocks())
	}
}

func TestNil(t *testing.T) {
	var s *session.Session
	s.Feed(nil)
	s.Feed([]byte("a" + prompt))
	s.Scroll(1)
	items, top := s.View()
	if s.Term() != nil || s.Reply() != "" || len(s.Rows())+len(s.Blocks())+len(s.Points())+len(s.Folded())+len(s.Items())+len(items)+top+len(s.Shown())+len(s.Lines()) != 0 {
		t.Error("nil")
	}
	for _, size := range [][2]int{{4, 10}, {0, 0}} {
		if e := s.Size(size[0], size[1]); e != api.ErrArg {
			t.Error("Size", e)
		}
	}
	for _, n := range []int{-1, 0, 1} {
		id := max(n, 0)
		text, cut, e := s.Copy(uint64(id), n)
		if s.Fold(uint64(id), true) != api.ErrNone || s.Fold(uint64(id), false) != api.ErrNone || s.Jump(n, 0) != api.ErrNone || s.Visit(n) != api.ErrNone || text != "" || cut || e != api.ErrNone {
			t.Error("of", n)
		}
		if l, e := s.Find("a", n); len(l) != 0 || e != api.ErrNone {
			t.Error("Find", l, e)
		}
		if l, e := s.Find("", n); len(l) != 0 || e != api.ErrArg {
			t.Error("Find of nothing", l, e)
		}
	}
}

func TestWhatIsHandedInStays(t *testing.T) {
	s := newSession(t, usual)
	all := []byte(prompt + "\x1b]633;E;line\aabcZZZ")
	was := string(all)
	s.Feed(all[:len(all)-3])
	if string(all) != was {
		t.Errorf("%q", all)
	}
	clear(all)
	if l := s.Lines(); len(l) != 1 || l[0] != "line" {
		t.Errorf("%q", l)
	}
	rows(t, s, "abc", "", "", "")
}

func TestWhatIsAnsweredIsNew(t *testing.T) {
	s := usually(t, three, mark)
	s.Fold(1, true)
	for range 2 {
		for _, l := range [][]api.Row{s.Rows(), s.Shown()} {
			for _, row := range l {
				clear(row.Cells)
			}
			clear(l)
		}
		clear(s.Blocks())
		clear(s.Points())
		clear(s.Folded())
		clear(s.Items())
		items, _ := s.View()
		clear(items)
		clear(s.Lines())
		found, _ := s.Find("a", -1)
		clear(found)
	}
	rows(t, s, "hi", "$ ls", "a", "b", "$ cat", "c", "d", "e", "$ ")
	points(t, s, pos(8, 2))
	if l := s.Blocks(); len(l) != 4 || l[1].Id != 1 || !slices.Equal(s.Folded(), []uint64{1}) || !slices.Equal(s.Lines(), []string{"ls", "cat"}) {
		t.Error("what was answered is the session's own")
	}
}
