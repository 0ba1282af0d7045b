package parse_test

import (
	"math"
	"reflect"
	"slices"
	"strings"
	"testing"

	"marquee/api"
	"marquee/parse"
)

func newParser(t *testing.T, payload int) *parse.Parser {
	t.Helper()
	p, e := parse.New(payload)
	if e != api.OK || p == nil {
		t.Fatalf("New(%d): %v", payload, e)
	}
	return p
}

// The events, as the chapter tells them.

func scalars(text string) []api.Event {
	var l []api.Event
	for _, r := range text {
		l = append(l, api.Event{Kind: api.Print, R: r})
	}
	return l
}

func execute(text string) []api.Event {
	var l []api.Event
	for i := range len(text) {
		l = append(l, api.Event{Kind: api.Execute, Byte: text[i]})
	}
	return l
}

func escape(inter string, last byte) []api.Event {
	return []api.Event{{Kind: api.Esc, Inter: inter, Byte: last}}
}

func sequence(prefix byte, inter string, last byte, groups ...[]int) []api.Event {
	return []api.Event{{Kind: api.Csi, Prefix: prefix, Nums: groups, Inter: inter, Byte: last}}
}

func device(prefix byte, inter string, last byte, text string, cut bool, groups ...[]int) []api.Event {
	return []api.Event{{Kind: api.Dcs, Prefix: prefix, Nums: groups, Inter: inter, Byte: last, Text: text, Cut: cut}}
}

func command(text string, cut bool) []api.Event {
	return []api.Event{{Kind: api.Osc, Text: text, Cut: cut}}
}

// all is lists one behind the other.
func all(l ...[]api.Event) []api.Event {
	return slices.Concat(l...)
}

// reading is some bytes, and what a parser of payloads of four bytes has answered, where it is, and how many bytes it holds behind them.
type reading struct {
	s           string
	want        []api.Event
	state, held int
}

func checkReadings(t *testing.T, l []reading) {
	t.Helper()
	for _, x := range l {
		p := newParser(t, 4)
		got := p.All([]byte(x.s))
		if !reflect.DeepEqual(got, x.want) {
			t.Errorf("%.60q: %#v, not %#v", x.s, got, x.want)
		}
		if p.State() != x.state || p.Held() != x.held {
			t.Errorf("%.60q: state %d, %d held, not %d, %d", x.s, p.State(), p.Held(), x.state, x.held)
		}
	}
}

func none() []int { return []int{-1} }

func TestNew(t *testing.T) {
	for _, n := range []int{0, -1, math.MinInt, api.MaxPayload + 1, math.MaxInt} {
		if p, e := parse.New(n); p != nil || e != api.ErrArg {
			t.Errorf("New(%d): %v, %v", n, p, e)
		}
	}
	for _, n := range []int{1, 2, api.MaxPayload - 1, api.MaxPayload} {
		if p := newParser(t, n); p.State() != 0 || p.Held() != 0 {
			t.Errorf("New(%d): state %d, %d held", n, p.State(), p.Held())
		}
	}
}

func TestAtRest(t *testing.T) {
	checkReadings(t, []reading{
		{"", nil, 0, 0},
		{"a\u3042\U0001f600", scalars("a\u3042\U0001f600"), 0, 0},
		{"\x00\x07\x08\t\n\r\x1f", execute("\x00\x07\x08\t\n\r\x1f"), 0, 0},
		{" ~\x7f\u00a0\uffff", scalars(" ~\u00a0\uffff"), 0, 0},
		{"\xe2", nil, 0, 1},
		{"\xf0\x9f\x98", nil, 0, 3},
		{"\xe2\x82A", scalars("\ufffdA"), 0, 0},
		{"\xe2\x82\n", all(scalars("\ufffd"), execute("\n")), 0, 0},
		{"\xe2\x82\x7f", scalars("\ufffd"), 0, 0},
		{"\x80\x9b\xff", scalars("\ufffd\ufffd\ufffd"), 0, 0}, // bytes, not scalars of 80 to 9f
		{"\xe2\x82\xc2\xa9", scalars("\ufffd\u00a9"), 0, 0},
		{"\xed\xa0\x80", scalars("\ufffd\ufffd\ufffd"), 0, 0},
	})
}

func TestScalarsThatAreEscapes(t *testing.T) {
	checkReadings(t, []reading{
		{"\u0080", escape("", '@'), 0, 0},
		{"\u0085", escape("", 'E'), 0, 0},
		{"\u009c", escape("", '\\'), 0, 0},
		{"\u009b", nil, 2, 0},
		{"\u009b1;31m", sequence(0, "", 'm', []int{1}, []int{31}), 0, 0},
		{"\u0090", nil, 3, 0},
		{"\u0090q\x1b", device(0, "", 'q', "", false, none()), 1, 0},
		{"\u009d", nil, 4, 0},
		{"\u009d0;a\x07", command("0;a", false), 0, 0},
		{"\u0098", nil, 5, 0}, {"\u009e", nil, 5, 0}, {"\u009f", nil, 5, 0},
		{"\xc2", nil, 0, 1},
		{"\x1b\u009b1m", sequence(0, "", 'm', []int{1}), 0, 0}, // it ends the escape, and is taken at rest
		{"\x1b[\u009b1m", sequence(0, "", 'm', []int{1}), 0, 0},
	})
	for r := rune(0x80); r <= 0x9f; r++ {
		a, b := newParser(t, 4), newParser(t, 4)
		one, other := a.All([]byte(string(r))), b.All([]byte{0x1b, byte(r) - 0x40})
		if !reflect.DeepEqual(one, other) || a.State() != b.State() {
			t.Errorf("%x: %#v, state %d; its escape: %#v, state %d", r, one, a.State(), other, b.State())
		}
	}
}

func TestBytesThatEndAll(t *testing.T) {
	begun := []string{
		"", "\x1b", "\x1b(", "\x1b !\"", "\x1b[", "\x1b[1;2", "\x1b[?1 ", "\x1b[1?", "\x1bP", "\x1bP1$", "\x1bP1?",
		"\x1bPq", "\x1bP1$qabcde", "\x1bP1?qab", "\x1b]", "\x1b]0;t", "\x1b]12345", "\x1bX", "\x1b^ab", "\x1b_\x07",
	}
	for _, c := range []string{"\x18", "\x1a"} {
		for _, s := range begun {
			p := newParser(t, 4)
			p.All([]byte(s))
			if got := p.All([]byte(c)); !reflect.DeepEqual(got[len(got)-1:], execute(c)) || len(got) != 1 || p.State() != 0 || p.Held() != 0 {
				t.Errorf("%q behind %q: %#v, state %d, %d held", c, s, got, p.State(), p.Held())
			}
			if got := p.All([]byte("1m")); !reflect.DeepEqual(got, scalars("1m")) { // nothing goes on
				t.Errorf("behind %q: %#v", s+c, got)
			}
		}
	}
	checkReadings(t, []reading{
		{"\xe2\x82\x18", all(scalars("\ufffd"), execute("\x18")), 0, 0},
		{"\xf0\x9f\x98\x1a", all(scalars("\ufffd"), execute("\x1a")), 0, 0},
		{"\xc2\x1b", scalars("\ufffd"), 1, 0},
		{"\xc2\x1b\x9b", scalars("\ufffd\ufffd"), 0, 0},
		{"\x18\x1a", execute("\x18\x1a"), 0, 0},
	})
}

func TestBytesThatBeginAnEscape(t *testing.T) {
	checkReadings(t, []reading{
		{"\x1b", nil, 1, 0},
		{"\x1b\x1b", nil, 1, 0},
		{"\x1b(\x1b0", escape("", '0'), 0, 0},
		{"\x1b !\"\x1b(0", escape("(", '0'), 0, 0},
		{"\x1b[1;2\x1b[3m", sequence(0, "", 'm', []int{3}), 0, 0},
		{"\x1b[1?\x1b[3m", sequence(0, "", 'm', []int{3}), 0, 0},
		{"\x1bP1$\x1b", nil, 1, 0}, // its last byte hasn't come
		{"\x1bP1$q\x1b", device(0, "$", 'q', "", false, []int{1}), 1, 0},
		{"\x1bP1?qa\x1b", nil, 1, 0},
		{"\x1b]\x1b", command("", false), 1, 0},
		{"\x1b]0;t\x1b]1;u\x1b", all(command("0;t", false), command("1;u", false)), 1, 0},
		{"\x1bXab\x1b\\", escape("", '\\'), 0, 0},
	})
}

func TestEscapes(t *testing.T) {
	checkReadings(t, []reading{
		{"\x1b7", escape("", '7'), 0, 0},
		{"\x1b0\x1b~", all(escape("", '0'), escape("", '~')), 0, 0},
		{"\x1b(", nil, 1, 1},
		{"\x1b(0", escape("(", '0'), 0, 0},
		{"\x1b /", nil, 1, 2},
		{"\x1b /0", escape(" /", '0'), 0, 0},
		{"\x1b !\"", nil, 1, 0}, // of more than two none is held
		{"\x1b !\"#", nil, 1, 0},
		{"\x1b !\"0a", scalars("a"), 0, 0},
		{"\x1b !\"[1", scalars("1"), 0, 0},
		{"\x1b([1m", all(escape("(", '['), scalars("1m")), 0, 0}, // with bytes between nothing begins
		{"\x1b(]", escape("(", ']'), 0, 0}, {"\x1b(P", escape("(", 'P'), 0, 0}, {"\x1b(X", escape("(", 'X'), 0, 0},
		{"\x1b\n(\r\x000", all(execute("\n\r\x00"), escape("(", '0')), 0, 0},
		{"\x1b !\"\n0", execute("\n"), 0, 0},
		{"\x1b\x7f(\x7f0", escape("(", '0'), 0, 0},
		{"\x1b\x80", scalars("\ufffd"), 0, 0},
		{"\x1b(\xe2\x82\xac0", scalars("\u20ac0"), 0, 0},
		{"\x1b(\xe2", nil, 0, 1},
		{"\x1b !\"\u00e9", scalars("\u00e9"), 0, 0},
	})
	for c := byte(0x30); c <= 0x7e; c++ {
		if strings.IndexByte("[]PX^_", c) < 0 {
			checkReadings(t, []reading{{"\x1b" + string(rune(c)), escape("", c), 0, 0}})
		}
		checkReadings(t, []reading{{"\x1b#" + string(rune(c)), escape("#", c), 0, 0}})
	}
}

func TestControlSequences(t *testing.T) {
	checkReadings(t, []reading{
		{"\x1b[", nil, 2, 0},
		{"\x1b[1;31m", sequence(0, "", 'm', []int{1}, []int{31}), 0, 0}, // the chapter's example
		{"\x1b[m", sequence(0, "", 'm', none()), 0, 0},
		{"\x1b[@\x1b[~", all(sequence(0, "", '@', none()), sequence(0, "", '~', none())), 0, 0},
		{"\x1b[?1;;38:5h", sequence('?', "", 'h', []int{1}, none(), []int{38, 5}), 0, 0},
		{"\x1b[<m\x1b[=m\x1b[>m", all(sequence('<', "", 'm', none()), sequence('=', "", 'm', none()), sequence('>', "", 'm', none())), 0, 0},
		{"\x1b[? /p", sequence('?', " /", 'p', none()), 0, 0},
		{"\x1b[?", nil, 2, 0}, // the prefix isn't of what is held
		{"\x1b[?12", nil, 2, 2},
		{"\x1b[?12 !", nil, 2, 4},
		{"\x1b[12$p", sequence(0, "$", 'p', []int{12}), 0, 0},
		{"\x1b[1\n2\x07m", all(execute("\n\x07"), sequence(0, "", 'm', []int{12})), 0, 0},
		{"\x1b[\x7f1\x7f;2\x7fm", sequence(0, "", 'm', []int{1}, []int{2}), 0, 0},
		{"\x1b[1\u3042m", scalars("\u3042m"), 0, 0},
		{"\x1b[1\x9bm", scalars("\ufffdm"), 0, 0},
		{"\x1b[1;2\xf0", nil, 0, 1},
		{"\x1b[99999999999m", sequence(0, "", 'm', []int{65535}), 0, 0},
	})
}

func TestWrongControlSequences(t *testing.T) {
	checkReadings(t, []reading{
		{"\x1b[1?", nil, 2, 0}, {"\x1b[1?ma", scalars("a"), 0, 0},
		{"\x1b[??ma", scalars("a"), 0, 0},
		{"\x1b[:<ma", scalars("a"), 0, 0},
		{"\x1b[ 1", nil, 2, 0}, {"\x1b[ 1ma", scalars("a"), 0, 0},
		{"\x1b[ ?ma", scalars("a"), 0, 0},
		{"\x1b[1 !\"", nil, 2, 0}, {"\x1b[1 !\"ma", scalars("a"), 0, 0},
		{"\x1b[1?2;3 !\"#456?", nil, 2, 0}, // it goes on, and holds nothing
		{"\x1b[1?2;3 !ma", scalars("a"), 0, 0},
		{"\x1b[1?\n2\x7fma", all(execute("\n"), scalars("a")), 0, 0},
		{"\x1b[1?\u3042m", scalars("\u3042m"), 0, 0},
		{"\x1b[1?m\x1b[1m", sequence(0, "", 'm', []int{1}), 0, 0}, // the next one is right again
	})
}

func TestDeviceStrings(t *testing.T) {
	checkReadings(t, []reading{
		{"\x1bP", nil, 3, 0},
		{"\x1bP?1;2$ ", nil, 3, 5},
		{"\x1bP?1;2$ q", nil, 3, 5},
		{"\x1bP?1;2$ qab", nil, 3, 7},
		{"\x1bP?1;2$ qab\x1b\\", all(device('?', "$ ", 'q', "ab", false, []int{1}, []int{2}), escape("", '\\')), 0, 0},
		{"\x1bPq\x1b", device(0, "", 'q', "", false, none()), 1, 0},
		{"\x1bP\n1\r\x7f\x00;\x7f2q\x1b", device(0, "", 'q', "", false, []int{1}, []int{2}), 1, 0}, // nothing is executed
		{"\x1bPq\n\x7f\x00\x07\x1b", device(0, "", 'q', "\n\x7f\x00\x07", false, none()), 1, 0},
		{"\x1bPq\xff\x9c\xe2\x80\x1b", device(0, "", 'q', "\xff\x9c\xe2\x80", false, none()), 1, 0},
		{"\x1bPqabcd", nil, 3, 4}, {"\x1bPqabcd\x1b", device(0, "", 'q', "abcd", false, none()), 1, 0},
		{"\x1bPqabcde", nil, 3, 4}, {"\x1bPqabcde\x1b", device(0, "", 'q', "abcd", true, none()), 1, 0},
		{"\x1bPqabcd\n\x1b", device(0, "", 'q', "abcd", true, none()), 1, 0},
		{"\x1bPqab\x18", execute("\x18"), 0, 0},
		{"\x1bP1\u3042q", scalars("\u3042q"), 0, 0},
		{"\x1bP1?\x80q", scalars("\ufffdq"), 0, 0},
		{"\x1bP1?", nil, 3, 0}, {"\x1bP1?qab", nil, 3, 0}, {"\x1bP1?qab\x1b\\", escape("", '\\'), 0, 0},
		{"\x1bP !\"qab\x1b", nil, 1, 0}, {"\x1bP 1qab\x1b", nil, 1, 0}, {"\x1bP??qab\x1b", nil, 1, 0},
		{"\x1bP1?qm\n\u3042a", nil, 3, 0}, // a wrong one has its payload all the same
		{"\x1bP1?qa\x1bPqb\x1b", device(0, "", 'q', "b", false, none()), 1, 0},
	})
}

func TestCommands(t *testing.T) {
	checkReadings(t, []reading{
		{"\x1b]", nil, 4, 0},
		{"\x1b]0;a", nil, 4, 3},
		{"\x1b]0;a\x07", command("0;a", false), 0, 0}, // the chapter's example
		{"\x1b]0;a\x1b\\", all(command("0;a", false), escape("", '\\')), 0, 0},
		{"\x1b]\x07", command("", false), 0, 0},
		{"\x1b]a\n\x00\x7f\rb", nil, 4, 2},
		{"\x1b]a\n\x00\x7f\rb\x07\x07", all(command("ab", false), execute("\x07")), 0, 0},
		{"\x1b]\xff\x9c\xc2\x9c\x07", command("\xff\x9c\xc2\x9c", false), 0, 0},
		{"\x1b]\x80\xe2\x07a", all(command("\x80\xe2", false), scalars("a")), 0, 0},
		{"\x1b]abcd\x07", command("abcd", false), 0, 0},
		{"\x1b]abcd\n\x7f\x07", command("abcd", false), 0, 0}, // what is left out anyway doesn't cut it
		{"\x1b]abcde", nil, 4, 4}, {"\x1b]abcde\x07", command("abcd", true), 0, 0},
		{"\x1b]abcde\x1b]f\x07", all(command("abcd", true), command("f", false)), 0, 0},
		{"\x1b]ab\x18\x07", execute("\x18\x07"), 0, 0},
		{"\x1b]ab\x1ac", all(execute("\x1a"), scalars("c")), 0, 0},
	})
}

func TestStringsOfNoMeaning(t *testing.T) {
	for _, c := range []string{"X", "^", "_"} {
		checkReadings(t, []reading{
			{"\x1b" + c, nil, 5, 0},
			{"\x1b" + c + "abcdef\n\x07\x00\x7f\xff\u009c[m", nil, 5, 0},
			{"\x1b" + c + "ab\x1b\\", escape("", '\\'), 0, 0},
			{"\x1b" + c + "ab\x18a", all(execute("\x18"), scalars("a")), 0, 0},
			{"\x1b" + c + "ab\x1aa", all(execute("\x1a"), scalars("a")), 0, 0},
		})
	}
}

func TestHeadsAtTheLimit(t *testing.T) {
	ones := slices.Repeat([][]int{{1}}, api.MaxGroups)
	head := strings.Repeat("1;", api.MaxHead/2)
	digits := strings.Repeat("0", api.MaxHead-1)
	checkReadings(t, []reading{
		{"\x1b[" + head, nil, 2, api.MaxHead},
		{"\x1b[" + head + "m", sequence(0, "", 'm', ones...), 0, 0}, // more groups than may be are left out
		{"\x1b[" + digits + "7m", sequence(0, "", 'm', []int{7}), 0, 0},
		{"\x1b[?" + digits + "7 !", nil, 2, api.MaxHead + 2},
		{"\x1b[?" + digits + "7 !m", sequence('?', " !", 'm', []int{7}), 0, 0},
		{"\x1b[" + head + "1", nil, 2, 0},
		{"\x1b[" + head + "1ma", scalars("a"), 0, 0},
		{"\x1b[" + head + strings.Repeat("1", 10000), nil, 2, 0},
		{"\x1bP" + head + "q\x1b", device(0, "", 'q', "", false, ones...), 1, 0},
		{"\x1bP" + head + ";q\x1b", nil, 1, 0},
		{"\x1bP" + head + "$ qabcde", nil, 3, api.MaxHead + 2 + 4},
	})
}

func TestPayloadsAtTheLimit(t *testing.T) {
	for _, most := range []int{1, 2, 300, api.MaxPayload} {
		for _, begin := range []string{"\x1b]", "\x1bPq"} {
			for _, n := range []int{most - 1, most, most + 1, most + 1000} {
				p := newParser(t, most)
				text := strings.Repeat("x", n)
				p.All([]byte(begin + text))
				if p.Held() != min(n, most) {
					t.Errorf("%q, %d of %d bytes: %d held", begin, n, most, p.Held())
				}
				l := p.All([]byte{0x1b})
				if len(l) != 1 || l[0].Text != text[:min(n, most)] || l[0].Cut != (n > most) {
					t.Errorf("%q, %d of %d bytes: %.200v", begin, n, most, l)
				}
			}
		}
	}
	p := newParser(t, api.MaxPayload)
	p.All([]byte("\x1bP?" + strings.Repeat("1", api.MaxHead) + " !q" + strings.Repeat("x", api.MaxPayload+9)))
	if p.Held() != api.MaxPayload+258 {
		t.Errorf("the most that is held: %d", p.Held())
	}
}

// edges are the bytes at which the meaning of bytes changes, and one behind and ahead of most.
const edges = "\x00\x07\x17\x18\x1a\x1b\x1f \x2f0:;<?@P[\\]X^_q~\x7f\x80\x90\x9b\x9f\xa0\xc2\xe2\xff"

// checkTold holds what a parser answered, and where it is, against the document's words.
func checkTold(t *testing.T, p *parse.Parser, got []api.Event, s string, most int) {
	t.Helper()
	want := tellOf(s, most)
	if !reflect.DeepEqual(got, want.events) {
		t.Fatalf("%q: %#v, not %#v", s, got, want.events)
	}
	if p.State() != want.state || p.Held() != want.held {
		t.Fatalf("%q: state %d, %d held, not %d, %d", s, p.State(), p.Held(), want.state, want.held)
	}
}

func TestAllShortTextsAreTold(t *testing.T) {
	const most = 2
	var grow func(p *parse.Parser, before []api.Event, s string, n int)
	grow = func(p *parse.Parser, before []api.Event, s string, n int) {
		checkTold(t, p, before, s, most)
		if n == 0 {
			return
		}
		for i := range len(edges) {
			q := p.Copy() // so that each byte comes to one that is as this one
			got := q.Step(edges[i])
			grow(q, slices.Concat(before, got), s+edges[i:i+1], n-1)
		}
	}
	for _, s := range []string{
		"", "\x1b", "\x1b ", "\x1b !", "\x1b[", "\x1b[?", "\x1b[1", "\x1b[1 ", "\x1bP", "\x1bP1", "\x1bP$", "\x1bPq", "\x1bPqa", "\x1bP1?", "\x1bP1?q", "\x1b]", "\x1b]a", "\x1bX", "\xe2\x82",
	} {
		p := newParser(t, most)
		before := p.All([]byte(s))
		grow(p, before, s, 3)
	}
}

// someBytes are bytes that look like chance, but are the same in each run.
func someBytes(seed uint64, n int) string {
	const more = edges + "\x1b\x1b\x1b[]P]P"
	b := make([]byte, n)
	for i := range b {
		seed = seed*6364136223846793005 + 1442695040888963407
		b[i] = more[seed>>33%uint64(len(more))]
	}
	return string(b)
}

func TestLongTextsAreTold(t *testing.T) {
	for seed := range uint64(2000) {
		most := int(seed%5) + 1
		p := newParser(t, most)
		s := someBytes(seed, 200)
		checkTold(t, p, p.All([]byte(s)), s, most)
	}
}

func TestHoweverBytesAreCut(t *testing.T) {
	texts := []string{
		"a\r\x1b[?1;2h\x1b(0\x1b]0;t\x07\x1b]12345\x1b\\\x1bP1$qm\x1b\\\u3042\xe2\x82\x18\u009b1m\x1b[1?m\x1b",
		someBytes(1, 60), someBytes(2, 60), someBytes(3, 60),
	}
	for _, s := range texts {
		p := newParser(t, 4)
		whole := p.All([]byte(s))
		checkTold(t, p, whole, s, 4)
		for i := range len(s) + 1 {
			for j := i; j <= len(s); j++ {
				p := newParser(t, 4)
				got := all(p.All([]byte(s[:i])), p.All([]byte(s[i:j])), p.All([]byte(s[j:])))
				checkTold(t, p, got, s, 4)
			}
		}
	}
}

func TestStepsAreAll(t *testing.T) {
	for seed := range uint64(300) {
		const most = 3
		s := someBytes(seed, 120)
		p := newParser(t, most)
		var got []api.Event
		for i := range len(s) {
			got = append(got, p.Step(s[i])...)
			checkTold(t, p, got, s[:i+1], most)
			if p.Held() > most+api.MaxHead+api.MaxInters {
				t.Fatalf("%q: %d held", s[:i+1], p.Held())
			}
		}
	}
}

func TestCopy(t *testing.T) {
	for _, x := range []struct{ s, one, other string }{
		{"\x1b(", "0", "1"}, {"\x1b ", "!0", "\"1"}, {"\x1b[12", "3m", "4m"}, {"\x1b[1;2;3;4;5", ";6m", ";7m"}, {"\x1b[? ", "!p", "\"p"},
		{"\x1b]abc", "d\x07", "e\x07"}, {"\x1b]abcdefghi", "jkl\x07", "m\x07"}, {"\x1bP1$qabc", "d\x1b", "e\x1b"},
		{"\xf0\x9f\x98", "\x80", "\x81"}, {"\x1b[1?", "ma", "\x18"}, {"\x1bXa", "\x1b7", "\x18"}, {"", "a", "\x1b"},
	} {
		p := newParser(t, 12)
		before := p.All([]byte(x.s))
		q := p.Copy()
		if q == p || q.State() != p.State() || q.Held() != p.Held() {
			t.Errorf("a copy behind %q: state %d, %d held", x.s, q.State(), q.Held())
		}
		var one, other []api.Event
		for i := range max(len(x.one), len(x.other)) { // by turns, so that each would write over the other one's bytes
			if i < len(x.one) {
				one = append(one, p.Step(x.one[i])...)
			}
			if i < len(x.other) {
				other = append(other, q.Step(x.other[i])...)
			}
		}
		checkTold(t, p, slices.Concat(before, one), x.s+x.one, 12)
		checkTold(t, q, slices.Concat(before, other), x.s+x.other, 12)
	}
}

func TestNilParser(t *testing.T) {
	var p *parse.Parser
	if l := p.Step('a'); len(l) != 0 {
		t.Errorf("Step: %v", l)
	}
	if l := p.All([]byte("\x1b[ma")); len(l) != 0 {
		t.Errorf("All: %v", l)
	}
	if p.State() != 0 || p.Held() != 0 || p.Copy() != nil {
		t.Error("State, Held, Copy")
	}
}

func TestNothingIsSharedOrChanged(t *testing.T) {
	const s = "\x1b[1;2m\x1b]abc\x07\x1bP3$qdef\x1b(0spare"
	whole := []byte(s)
	b := whole[:len(s)-5]
	p := newParser(t, 10)
	first := p.All(b)
	if string(whole) != s {
		t.Errorf("All changed what was handed in: %q", whole)
	}
	clear(whole)
	want := all(sequence(0, "", 'm', []int{1}, []int{2}), command("abc", false), device(0, "$", 'q', "def", false, []int{3}), escape("(", '0'))
	again := p.All([]byte("\x1b[8;9m\x1b]xyz\x07\x1bP7#pghi\x1b)1"))
	if !reflect.DeepEqual(first, want) {
		t.Errorf("later bytes changed an answer: %#v", first)
	}
	again[0].Nums[0] = append(again[0].Nums[0], 55)
	if !slices.Equal(again[0].Nums[1], []int{9}) {
		t.Errorf("the groups share their memory: %v", again[0].Nums)
	}
}
