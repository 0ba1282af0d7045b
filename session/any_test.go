package session_test

import (
	"math"
	"slices"
	"strings"
	"testing"

	"marquee/api"
	"marquee/session"
	"marquee/text"
)

// both are a session, and what the document's words make of it.
type both struct {
	*testing.T
	c api.Config
	s *session.Session
	m *told
}

func newBoth(t *testing.T, c api.Config) both {
	t.Helper()
	return both{t, c, newSession(t, c), newTold(c)}
}

// chance answers numbers that look like chance, the same ones in each run.
func chance(seed uint64) func(n int) int {
	return func(n int) int {
		seed = seed*6364136223846793005 + 1442695040888963407
		return int(seed >> 33 % uint64(n))
	}
}

// some is one of some texts.
func some(pick func(int) int, l ...string) string {
	return l[pick(len(l))]
}

// anyBytes are bytes of a host, right and wrong, most of them such as a shell sends.
func anyBytes(pick func(int) int) string {
	switch pick(14) {
	case 0, 1:
		return some(pick, "a", "bcd", "\u3042", "e\u0301", "longer than a row", "a b  ", "\u3042\u3042\u3042")
	case 2, 3, 4:
		return some(pick, "\r\n", "\r\n", "\n", "\r", "\b", "\t", "x\r\ny\r\nz\r\n")
	case 5, 6, 7, 8:
		return some(pick, prompt, prompt, input, output, output, done, well, fault, "\x1b]633;E;ls\a", "\x1b]633;E;cat\x1b\\", "\x1b]7;file:///d\a")
	case 9:
		return mark
	case 10:
		return "\x1b[" + some(pick, "H", "A", "B", "2A", "9B", "C", "3D", "L", "M", "2L", "2M", "S", "T", "9S", "J", "1J", "2J", "3J", "K", "2K", "P", "@", "X", "2;3r", "1;2r", "r", "31m", "m", "6n", "5b", "!p", "2;2H")
	case 11:
		return some(pick, "\x1bM", "\x1bD", "\x1bE", "\x1b7", "\x1b8", "\x1b[?6h", "\x1b[?6l", "\x1b[?7l", "\x1b[?7h", "\x1b[4h", "\x1b[4l")
	case 12:
		return some(pick, two, one, one, "\x1b[?47h", "\x1b[?47l")
	}
	return some(pick, "\x1bc", "\x1b#8", "\x18", "\x1b", "\x1b[", "\x1b]133;", "\x1b]133;A\x18", "\x1b]133;A;of more bytes than there may be\a", "\xe3", "\xff")
}

// edges are numbers as far from others as can be.
var edges = []int{math.MinInt, -1, 0, 1, 1 << 40, math.MaxInt}

// number is one of few, or any.
func number(pick func(int) int, from, to int) int {
	if pick(30) == 0 {
		return edges[pick(len(edges))]
	}
	return from + pick(to-from+1)
}

func (b both) feed(all string) {
	b.s.Feed([]byte(all))
	b.m.feed(all)
}

// does wants that an error is the one that is told.
func (b both) does(got, want api.Errno, what ...any) {
	b.Helper()
	if got != want {
		b.Fatalf("%v: %v, not %v", what, got, want)
	}
}

// anyStep makes a step.
func (b both) anyStep(pick func(int) int) {
	b.Helper()
	n, k, id := number(pick, -4, 4), number(pick, -1, 3), number(pick, 0, int(b.m.blocks.Last())+1)
	switch pick(12) {
	case 0:
		if pick(3) == 0 {
			rows, cols := number(pick, 1, 6), number(pick, 2, 12)
			b.does(b.s.Size(rows, cols), b.m.size(rows, cols), "Size", rows, cols)
		}
	case 1, 2:
		on := pick(4) > 0
		b.does(b.s.Fold(uint64(id), on), b.m.fold(uint64(id), on), "Fold", id, on)
	case 3:
		b.s.Scroll(n)
		b.m.scroll(n)
	case 4:
		b.does(b.s.Jump(n, k), b.m.jumpTo(n, k), "Jump", n, k)
	case 5:
		b.does(b.s.Visit(n), b.m.visit(n), "Visit", n)
	default:
		b.feed(anyBytes(pick))
	}
}

// check holds all that a session answers against what is told.
func (b both) check(what ...any) {
	b.Helper()
	s, m := b.s, b.m
	if got, want := s.Reply(), m.x.Reply(); got != want {
		b.Fatalf("%v: Reply %q, not %q", what, got, want)
	}
	if got, want := s.Rows(), m.rows(); !slices.EqualFunc(got, want, isSameRow) {
		b.Fatalf("%v: Rows %q, not %q", what, lines(got), lines(want))
	}
	if got, want := s.Blocks(), m.list(); !slices.Equal(got, want) {
		b.Fatalf("%v: Blocks\n%+v, not\n%+v", what, got, want)
	}
	if got, want := s.Points(), m.points.List(); !slices.Equal(got, want) {
		b.Fatalf("%v: Points %v, not %v", what, got, want)
	}
	if got, want := s.Folded(), m.foldedOnes(); !slices.Equal(got, want) {
		b.Fatalf("%v: Folded %v, not %v", what, got, want)
	}
	b.checkView(what...)
	b.checkBounds(what...)
}

func (b both) checkView(what ...any) {
	b.Helper()
	s, m := b.s, b.m
	if got, want := s.Items(), m.items(); !slices.Equal(got, want) {
		b.Fatalf("%v: Items %v, not %v", what, got, want)
	}
	got, at := s.View()
	if want, top := m.view(); at != top || !slices.Equal(got, want) {
		b.Fatalf("%v: View %v from %d on, not %v from %d on", what, got, at, want, top)
	}
	if got, want := s.Shown(), m.shown(); !slices.EqualFunc(got, want, isSameRow) {
		b.Fatalf("%v: Shown %q, not %q", what, lines(got), lines(want))
	}
}

// checkBounds holds that blocks are intervals without a gap, in order, from the beginning to the end, and that there is no more of anything than there may be.
func (b both) checkBounds(what ...any) {
	b.Helper()
	l, at := b.s.Blocks(), api.Pos{}
	for i, x := range l {
		if x.Start != at || i > 0 && x.Id <= l[i-1].Id {
			b.Fatalf("%v: block %d: %+v", what, i, l)
		}
		for _, p := range []api.Pos{x.Input, x.Output, x.Done, x.Stop} {
			if p.Row < at.Row || p.Row == at.Row && p.Col < at.Col {
				b.Fatalf("%v: back in block %d: %+v", what, i, l)
			}
			at = p
		}
	}
	if at != b.m.end() {
		b.Fatalf("%v: the last block stops at %v, not at %v", what, at, b.m.end())
	}
	rows := len(b.s.Rows()) - b.s.Term().First().Page().Rows()
	if rows > b.c.Lines || len(l)-1 > b.c.Blocks || len(b.s.Points()) > b.c.Marks || len(b.s.Folded()) > len(l)-1 {
		b.Fatalf("%v: %d rows of history, %d blocks, %d points, %d folded", what, rows, len(l)-1, len(b.s.Points()), len(b.s.Folded()))
	}
}

// checkText holds what is copied of each block, and what is found.
func (b both) checkText(pick func(int) int, what ...any) {
	b.Helper()
	var linesOf []string
	for _, x := range b.m.list() {
		for part := -1; part <= 4; part++ {
			got, cut, e := b.s.Copy(x.Id, part)
			if want, isCut, told := b.m.copied(x.Id, part); got != want || cut != isCut || e != told {
				b.Fatalf("%v: Copy(%d, %d): %q, %v, %v, not %q, %v, %v", what, x.Id, part, got, cut, e, want, isCut, told)
			}
		}
		if x.Line != "" {
			linesOf = append(linesOf, x.Line)
		}
	}
	if l := b.s.Lines(); !slices.Equal(l, linesOf) {
		b.Fatalf("%v: Lines %q, not %q", what, l, linesOf)
	}
	for id := -2; id <= int(b.m.blocks.Last())+1; id++ {
		needle := some(pick, "", "a", "\n", "a\n", "r t", "\u3042", "e\u0301", "\u3042\u3042", "z\n", "\n\n")
		got, e := b.s.Find(needle, id)
		if want, told := b.m.find(needle, id); e != told || !slices.Equal(got, want) {
			b.Fatalf("%v: Find(%q, %d): %v, %v, not %v, %v", what, needle, id, got, e, want, told)
		}
	}
}

// configs are some small ones.
var configs = []api.Config{
	{Rows: 1, Cols: 2, Lines: 0, Blocks: 1, Marks: 1, Payload: 20},
	{Rows: 2, Cols: 3, Lines: 3, Blocks: 2, Marks: 2, Payload: 20},
	{Rows: 3, Cols: 8, Lines: 12, Blocks: 5, Marks: 3, Payload: 20},
	{Rows: 4, Cols: 12, Lines: 40, Blocks: 30, Marks: 9, Payload: 20},
}

// TestAnySteps makes whatever steps there are, one behind the other.
func TestAnySteps(t *testing.T) {
	for i, c := range configs {
		for seed := range uint64(20) {
			pick := chance(seed)
			b := newBoth(t, c)
			for k := range 250 {
				b.anyStep(pick)
				b.check(i, seed, k)
				if k%25 == 0 {
					b.checkText(pick, i, seed, k)
				}
			}
		}
	}
}

// same wants that two sessions answer the same of the document and the blocks.
func same(t *testing.T, a, b *session.Session, what ...any) {
	t.Helper()
	if !slices.EqualFunc(a.Rows(), b.Rows(), isSameRow) || !slices.Equal(a.Blocks(), b.Blocks()) || !slices.Equal(a.Points(), b.Points()) || a.Reply() != b.Reply() || !slices.Equal(a.Lines(), b.Lines()) {
		t.Fatalf("%v:\n%q\n%+v, not\n%q\n%+v", what, lines(a.Rows()), a.Blocks(), lines(b.Rows()), b.Blocks())
	}
	for _, x := range a.Blocks() {
		for part := range 4 {
			one, cut, _ := a.Copy(x.Id, part)
			if other, isCut, _ := b.Copy(x.Id, part); one != other || cut != isCut {
				t.Fatalf("%v: Copy(%d, %d): %q, not %q", what, x.Id, part, one, other)
			}
		}
	}
}

// TestPieces: however bytes are cut, all is the same.
func TestPieces(t *testing.T) {
	for i, c := range configs {
		for seed := range uint64(5) {
			pick := chance(seed)
			var all string
			for range 600 {
				all += anyBytes(pick)
			}
			for _, most := range []int{1, 2, 7, 255, 256, 257, 1000} {
				whole, s := fed(t, c, all), newSession(t, c)
				for rest := []byte(all); len(rest) > 0; {
					n := min(most, len(rest))
					if most < 100 {
						n = min(1+pick(most), n)
					}
					s.Feed(rest[:n])
					rest = rest[n:]
				}
				for _, b := range whole.Blocks() {
					whole.Fold(b.Id, b.Id%2 == 1)
					s.Fold(b.Id, b.Id%2 == 1)
				}
				same(t, s, whole, i, seed, most)
				if one, other := s.Shown(), whole.Shown(); !slices.EqualFunc(one, other, isSameRow) || !slices.Equal(s.Items(), whole.Items()) {
					t.Fatalf("%d, %d, %d: Shown %q, not %q", i, seed, most, lines(one), lines(other))
				}
			}
		}
	}
}

// TestLookingChangesNothing: what is folded, scrolled, jumped to, looked for and copied changes nothing of the document, the blocks and the replies.
func TestLookingChangesNothing(t *testing.T) {
	for i, c := range configs {
		for seed := range uint64(10) {
			pick := chance(seed)
			s, plain := newSession(t, c), newSession(t, c)
			for k := range 300 {
				if k%40 == 39 {
					rows, cols := 1+pick(6), 2+pick(10)
					s.Size(rows, cols)
					plain.Size(rows, cols)
				}
				all := []byte(anyBytes(pick))
				s.Feed(all)
				plain.Feed(all)
				look(s, pick)
			}
			same(t, s, plain, i, seed)
		}
	}
}

// look does all that a user does.
func look(s *session.Session, pick func(int) int) {
	l := s.Blocks()
	id := l[pick(len(l))].Id
	s.Fold(id, pick(3) > 0)
	s.Scroll(number(pick, -3, 3))
	s.Jump(number(pick, -2, 2), pick(4))
	s.Visit(number(pick, -2, 2))
	s.Copy(id, pick(5))
	s.Find(some(pick, "a", "\n", ""), number(pick, -2, int(id)))
	s.Items()
	s.View()
	s.Shown()
	s.Lines()
}

// TestFoundStandsThere: what is found stands at its place.
func TestFoundStandsThere(t *testing.T) {
	pick := chance(1)
	for range 40 {
		s := newSession(t, configs[3])
		for range 100 {
			s.Feed([]byte(anyBytes(pick)))
		}
		s.Size(1+pick(6), 2+pick(9))
		for _, needle := range []string{"a", "bc", "\u3042", "row"} {
			l, _ := s.Find(needle, -1)
			for _, at := range l {
				if got := text.Of(s.Rows(), at, pos(len(s.Rows()), 0)); !strings.HasPrefix(got, needle) {
					t.Fatalf("%q at %v of %q: %q", needle, at, lines(s.Rows()), got)
				}
			}
		}
	}
}

// TestTheOtherScreenChangesNoText: what comes while it is in use leaves all blocks as they are.
func TestTheOtherScreenChangesNoText(t *testing.T) {
	for i, c := range configs {
		for seed := range uint64(20) {
			pick := chance(seed)
			s, plain := newSession(t, c), newSession(t, c)
			var all string
			for range 80 {
				all += anyBytes(pick)
			}
			for _, s := range []*session.Session{s, plain} {
				s.Feed([]byte(all + "\x18" + two))
				s.Reply()
			}
			for range 80 {
				x := anyBytes(pick)
				if strings.Contains(x, "\x1bc") || strings.HasPrefix(x, "\x1b[?") || strings.HasSuffix(x, "\x1b") || strings.HasSuffix(x, "[") {
					continue // it may bring the first one into use again
				}
				s.Feed([]byte("\x18" + x))
				s.Reply()
			}
			if !s.Term().Other() {
				t.Fatal("the first screen is in use")
			}
			same(t, s, plain, i, seed)
		}
	}
}

// anyOutput are lines of scalars that have columns, and the same, turned by colors, as they are printed.
func anyOutput(pick func(int) int) (plain, printed string) {
	for range pick(6) {
		for range pick(8) {
			x := some(pick, "a", "bc d", "\u3042", "\u3044\u3046", "  ", "~", "0123456789")
			plain += x
			printed += some(pick, "", "\x1b[31m", "\x1b[1;44m", "\x1b[m", "\x1b[7;38:5:200m") + x
		}
		plain += "\n"
		printed += "\r\n"
	}
	return plain, printed + "\x1b[m"
}

// TestOutputIsCopiedAsPrinted: whatever the widths were, ahead of it, amid it, and behind it.
func TestOutputIsCopiedAsPrinted(t *testing.T) {
	for seed := range uint64(60) {
		pick := chance(seed)
		s := fed(t, api.Config{Rows: 1 + pick(6), Cols: 2 + pick(20), Lines: 3000, Blocks: 99, Marks: 9, Payload: 99})
		resize := func(often int) {
			if pick(often) == 0 {
				s.Size(1+pick(8), 2+pick(20))
			}
		}
		var want []string
		for range 12 {
			plain, printed := anyOutput(pick)
			want = append(want, plain)
			s.Feed([]byte(prompt + "$ " + input + "ls\r\n" + output))
			for _, r := range printed {
				if r != '\r' && r != '\n' && r != '\x1b' {
					resize(20) // within sequences, too
				}
				s.Feed([]byte(string(r)))
			}
			s.Feed([]byte(well))
			resize(2)
		}
		s.Feed([]byte(prompt))
		for i, plain := range want {
			if got, cut, e := s.Copy(uint64(i+1), api.PartOutput); got != plain || cut || e != api.OK {
				t.Fatalf("%d: Copy(%d): %q, %v, %v, not %q", seed, i+1, got, cut, e, plain)
			}
		}
	}
}

// TestEndOfOutputIsCopied: of what was cut by eviction the end, and that is told.
func TestEndOfOutputIsCopied(t *testing.T) {
	cuts := 0
	for seed := range uint64(200) {
		pick := chance(seed)
		s := fed(t, api.Config{Rows: 1 + pick(4), Cols: 2 + pick(20), Lines: pick(8), Blocks: 99, Marks: 9, Payload: 99})
		plain, printed := anyOutput(pick)
		for _, part := range []string{prompt + "$ " + input + "ls\r\n" + output, printed, well} {
			s.Feed([]byte(part))
			if pick(2) == 0 {
				s.Size(1+pick(4), 2+pick(20))
			}
		}
		s.Feed([]byte(prompt + "$ "))
		got, cut, e := s.Copy(1, api.PartOutput)
		if e == api.ErrNone && len(s.Blocks()) == 2 {
			continue // nothing is left of it
		}
		if !strings.HasSuffix(plain, got) || got != plain && !cut {
			t.Fatalf("%d: Copy: %q, %v, %v, of %q", seed, got, cut, e, plain)
		}
		if cut {
			cuts++
		}
	}
	if cuts < 20 {
		t.Errorf("%d were cut", cuts)
	}
}
