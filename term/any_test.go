package term_test

import (
	"fmt"
	"slices"
	"strings"
	"testing"

	"marquee/api"
	"marquee/screen"
	"marquee/term"
)

// both are a terminal, and what the document's words make of it.
type both struct {
	*testing.T
	x *term.Term
	m *terminal
}

func newBoth(t *testing.T, rows, cols, lines, payload int) both {
	t.Helper()
	return both{t, newTerm(t, rows, cols, lines, payload), newTerminal(rows, cols, lines, payload)}
}

func (b both) feed(text string) {
	b.x.Feed([]byte(text))
	b.m.feed([]byte(text))
}

func (b both) resize(rows, cols int, l ...api.Pos) {
	b.Helper()
	l1, e1 := b.x.Resize(rows, cols, l...)
	l2, e2 := b.m.resize(rows, cols, l)
	if e1 != e2 || !slices.Equal(l1, l2) {
		b.Fatalf("Resize(%d, %d, %v): %v, %v, not %v, %v", rows, cols, l, l1, e1, l2, e2)
	}
}

// check holds all that a terminal answers against what is told.
func (b both) check(what ...any) {
	b.Helper()
	x, m := b.x, b.m
	if x.Other() != m.isTwo || x.Title() != m.title || x.Rest() != (m.p.State() == 0 && m.p.Held() == 0) {
		b.Fatalf("%q: Other %v, Title %q, Rest %v", what, x.Other(), x.Title(), x.Rest())
	}
	if got := x.Reply(); got != m.replies {
		b.Fatalf("%q: Reply %q, not %q", what, got, m.replies)
	}
	if got := x.Modes(); got != m.set() {
		b.Fatalf("%q: Modes %v, not %v", what, got.List(), m.modes)
	}
	if got := x.Changes(); !slices.Equal(got, m.changes) {
		b.Fatalf("%q: Changes %v, not %v", what, got, m.changes)
	}
	m.replies, m.changes = "", nil
	b.sameScreen(x.First(), m.one, what)
	b.sameScreen(x.Screen(), m.used(), what)
}

func (b both) sameScreen(s, want *screen.Screen, what any) {
	b.Helper()
	if s.State() != want.State() {
		b.Fatalf("%q: %+v, not %+v", what, s.State(), want.State())
	}
	p, q := s.Page(), want.Page()
	if p.Rows() != q.Rows() || p.Cols() != q.Cols() || p.Base() != q.Base() || p.Gone() != q.Gone() || !slices.EqualFunc(p.All(), q.All(), isSameRow) {
		b.Fatalf("%q: %s, not %s", what, seen(s), seen(want))
	}
	if !slices.Equal(s.Stops().List(), want.Stops().List()) || s.Stops().Cols() != want.Stops().Cols() {
		b.Fatalf("%q: stops %v, not %v", what, s.Stops().List(), want.Stops().List())
	}
}

func isSameRow(a, b api.Row) bool {
	return a.Cont == b.Cont && slices.Equal(a.Cells, b.Cells)
}

// starts are what was done ahead of what is looked at.
var starts = []string{
	"",
	"abcdefghi\u3042j\r\nklmnop\x1b[2;3H",
	"a\r\nb\r\nc\r\nd\r\n\x1b[31;44m\x1b(0\x1b[2;3r\x1b[?6;20h\x1b[2;2Hxy\x1b7\x1b[4h\x1b[1mz\x1bN",
	"abc\x1b7\x1b[H\x1b[?1049h\x1b[44mdefghij\x1b[1;2r",
	"\x1b[?47h\x1b[2;4Hab\x1b7\x1b[?47l\x1b[?7;25lcdefghij\x1b[?1000h",
}

// numbers are what stands ahead of a last byte.
var numbers = []string{"", "0", "1", "2", "3", "5", "6", "18", "2;3", ";2", "0;0", "3:9;2", "65535;65535"}

// TestEachSequence does each control sequence, whatever stands ahead of it and between, ahead of each start.
func TestEachSequence(t *testing.T) {
	for _, prefix := range []string{"", "?", ">", "=", "<"} {
		for _, inter := range []string{"", "$", "!", " ", "$$", "#"} {
			for last := byte(0x40); last < 0x7f; last++ {
				for i, n := range numbers {
					if (prefix != "" || inter != "") && i > 0 && strings.Contains(n, ";") {
						continue
					}
					start := starts[(int(last)+i)%len(starts)]
					if prefix == "" && inter == "" {
						for _, start := range starts {
							sequence(t, start, "\x1b["+prefix+n+inter+string([]byte{last}))
						}
						continue
					}
					sequence(t, start, "\x1b["+prefix+n+inter+string([]byte{last}))
				}
			}
		}
	}
}

// TestEachMode sets and resets each mode, and some that are none, ahead of each start, alone and behind another one.
func TestEachMode(t *testing.T) {
	modes := []int{0, 1, 3, 4, 5, 6, 7, 20, 25, 47, 48, 66, 1000, 1002, 1003, 1004, 1005, 1006, 1047, 1048, 1049, 1050, 2004, 65535}
	for _, start := range starts {
		for _, prefix := range []string{"", "?"} {
			for _, n := range modes {
				for _, m := range modes {
					for _, last := range []string{"h", "l"} {
						sequence(t, start, fmt.Sprint("\x1b[", prefix, m, last, "pq\r\n\x1b[", prefix, n, ";", m, "hr\r\ns\x1b[", prefix, n, last))
					}
				}
			}
		}
	}
}

// TestEachEscape does each escape, and each control byte.
func TestEachEscape(t *testing.T) {
	for _, start := range starts {
		for c := range byte(0x80) {
			sequence(t, start, string([]byte{c}))
			sequence(t, start, "\x1b"+string([]byte{c}))
			sequence(t, start, string(rune(0x80+int(c))))
			for _, inter := range []string{"(", ")", "*", "+", "-", "#", " ", "%", "((", "(#"} {
				sequence(t, start, "\x1b"+inter+string([]byte{c}))
			}
		}
	}
}

// TestEachDevice does device strings and commands.
func TestEachDevice(t *testing.T) {
	for _, start := range starts {
		for _, name := range []string{"", "m", "r", "q", "mm", "\"p", strings.Repeat("r", 30)} {
			for _, ahead := range []string{"$q", "q", "$p", "?$q", ">$q", "1$q", "$$q", "$!q", "!q", " q", "$$$q", "1;2:3$q"} {
				for _, end := range []string{"\x1b\\", "\x1b", "\x18", "\x1a", "", "\a\x1b\\"} {
					sequence(t, start, "\x1bP"+ahead+name+end)
				}
			}
		}
		for _, payload := range []string{
			"", "133;A", "133;B", "133;C", "133;D", "133;D;1", "133;D;-9", "133;E;a", "633;A", "633;E;a\\x3bb", "633;P;Cwd=/a", "7;file:///a", "7;a", "1337;SetMark", "1337;CurrentDir=/", "0;t", "2;t", "2;", "2", "1;t", "9", ";",
			"633;E;123456789012345678901234567890",
		} {
			for _, end := range []string{"\a", "\x1b\\", "\x1b", "\x18", "\x1a", "", "\n\a"} {
				sequence(t, start, "\x1b]"+payload+end)
			}
		}
	}
}

// sequence holds what a sequence does behind a start, and what comes behind it then.
func sequence(t *testing.T, start, s string) {
	t.Helper()
	b := newBoth(t, 4, 6, 2, 20)
	b.feed(start)
	b.feed(s)
	b.check(start, s)
	b.feed("z\u3042\n")
	b.check(start, s, "and print")
	b.feed("\x1b[?47h")
	b.check(start, s, "and the other screen")
	b.feed("y\x1b[?1049l")
	b.check(start, s, "and the first one again")
}

// chance answers numbers that look like chance, the same ones in each run.
func chance() func(n int) int {
	seed := uint64(1)
	return func(n int) int {
		seed = seed*6364136223846793005 + 1442695040888963407
		return int(seed >> 33 % uint64(n))
	}
}

// some is one of some texts.
func some(pick func(int) int, l ...string) string {
	return l[pick(len(l))]
}

// anyBytes are bytes of a host, right and wrong.
func anyBytes(pick func(int) int) string {
	switch pick(12) {
	case 0, 1, 2:
		return some(pick, "a", "bcd", "\u3042", "e\u0301", "q#", "longer than a row")
	case 3:
		return some(pick, "\r\n", "\n", "\r", "\b", "\t", "\x0e", "\x0f", "\r\n\r\n\r\n")
	case 4:
		return "\x1b" + some(pick, "7", "8", "D", "E", "M", "H", "Z", "=", ">", "n", "o", "N", "O", "(0", ")A", "*0", "+B", "(B", "#8")
	case 5:
		return "\x1b]" + some(pick, "133;A", "133;B", "133;C", "133;D;3", "633;E;ls", "7;file:///a", "1337;SetMark", "2;t", "0;", "133;A;of more bytes than may be") + some(pick, "\a", "\x1b\\")
	case 6:
		return "\x1b[?" + some(pick, "6", "7", "25", "47", "1047", "1048", "1049", "6;1049", "66") + some(pick, "h", "l")
	case 7:
		return "\x1b[" + some(pick, "4", "20", "4;20") + some(pick, "h", "l", "l", "$p")
	case 8:
		return some(pick, "\x1b[5n", "\x1b[6n", "\x1b[?6n", "\x1b[c", "\x1b[>c", "\x1b[18t", "\x1b[?7$p", "\x1bP$qm\x1b\\", "\x1bP$qr\x1b\\", "\x1b[!p", "\x1b[3J", "\x1b[2J")
	case 9:
		if pick(8) > 0 {
			return ""
		}
		return some(pick, "\x1bc", "\x18", "\x1a", "\x1b", "\xe3", "\x9b", "\x1b[", "\x1b]", "\x1bP", string([]byte{byte(pick(256))}))
	}
	n := some(pick, "", "0", "1", "2", "3", "9", "1;2", "2;3", "31", "44", "1;31;42", "65535", "3;4")
	return "\x1b[" + n + string([]byte{byte(0x40 + pick(0x3f))})
}

// TestAnyBytes lets whatever may come come, in whatever pieces, with other sizes between.
func TestAnyBytes(t *testing.T) {
	pick := chance()
	for _, size := range [][3]int{{1, 2, 0}, {2, 3, 1}, {4, 7, 3}, {5, 20, 9}} {
		b := newBoth(t, size[0], size[1], size[2], 20)
		for i := range 4000 {
			var text string
			for range 1 + pick(4) {
				text += anyBytes(pick)
			}
			b.feed(text[:pick(len(text)+1)])
			b.check(size, i, text)
			if pick(40) == 0 {
				b.resize(pick(6), 1+pick(9), pos(pick(9)-1, pick(9)-1), pos(pick(4), pick(4)))
				b.check(size, i, "Resize")
			}
		}
	}
}

// TestPieces holds bytes that are cut against the same ones that aren't.
func TestPieces(t *testing.T) {
	pick := chance()
	var all string
	for range 6000 {
		all += anyBytes(pick)
	}
	whole := newBoth(t, 4, 9, 5, 20)
	whole.feed(all)
	for _, most := range []int{1, 2, 7, 4095, 4096, 4097} {
		b := both{t, newTerm(t, 4, 9, 5, 20), whole.m}
		for rest := []byte(all); len(rest) > 0; {
			n := min(1+pick(most), len(rest))
			if most > 4000 {
				n = min(most, len(rest))
			}
			b.x.Feed(rest[:n])
			b.x.Feed(nil)
			rest = rest[n:]
		}
		replies, changes := whole.m.replies, whole.m.changes
		b.check("pieces of at most", most)
		whole.m.replies, whole.m.changes = replies, changes
	}
	whole.check("in one piece")
}

// TestOtherScreenChangesNothing holds the first screen's document against what comes while the other one is in use.
func TestOtherScreenChangesNothing(t *testing.T) {
	pick := chance()
	for i := range 300 {
		x := newTerm(t, 4, 9, 5, 20)
		for range 30 {
			x.Feed([]byte(anyBytes(pick)))
		}
		x.Feed([]byte("\x18\x1b[?1049h"))
		x.Changes()
		was := x.First().Page().All()
		var fed string
		for range 60 {
			text := anyBytes(pick)
			if strings.Contains(text, "\x1bc") || strings.HasSuffix(text, "l") && strings.HasPrefix(text, "\x1b[?") {
				continue // they bring the first one into use again
			}
			fed += "\x18" + text
			x.Feed([]byte("\x18" + text))
		}
		if l := x.Changes(); !x.Other() || len(l) != 0 || !slices.EqualFunc(x.First().Page().All(), was, isSameRow) {
			t.Fatalf("%d: %q: %v, changes %v", i, fed, x.Other(), l)
		}
	}
}
