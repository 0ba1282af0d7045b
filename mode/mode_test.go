package mode_test

import (
	"math"
	"slices"
	"strconv"
	"strings"
	"testing"

	"marquee/api"
	"marquee/mode"
)

// hosts and privates are the modes that there are, as the document tells them.
var (
	hosts    = []int{4, 20}
	privates = []int{1, 5, 6, 7, 25, 47, 66, 1000, 1002, 1003, 1004, 1006, 1047, 1048, 1049, 2004}
)

type key struct {
	private bool
	n       int
}

// all is all modes, in the order in which they are told.
func all() []key {
	var l []key
	for _, n := range hosts {
		l = append(l, key{false, n})
	}
	for _, n := range privates {
		l = append(l, key{true, n})
	}
	return l
}

func (k key) word() string {
	if k.private {
		return "?" + strconv.Itoa(k.n)
	}
	return strconv.Itoa(k.n)
}

// told is a set by the document's words: the modes that are set.
type told map[key]bool

func (m told) list() []string {
	var l []string
	for _, k := range all() {
		if m[k] {
			l = append(l, k.word())
		}
	}
	return l
}

func (m told) report(k key) string {
	state := "0"
	if slices.Contains(all(), k) {
		state = "2"
		if m[k] {
			state = "1"
		}
	}
	return "\x1b[" + k.word() + ";" + state + "$y"
}

// odd is numbers of which there is no mode, or one of one kind alone.
var odd = []int{math.MinInt, -2004, -7, -4, -1, 0, 1, 2, 3, 4, 5, 6, 7, 8, 19, 20, 21, 24, 25, 26, 46, 47, 48, 65, 66, 67, 999, 1000, 1001, 1002, 1003, 1004, 1005, 1006, 1007, 1046, 1047, 1048, 1049, 1050, 2003, 2004, 2005, 65535, 65536 + 7, 1<<32 + 7, math.MaxInt}

// check holds all that a set answers against the document's words.
func check(t *testing.T, s mode.Set, m told) {
	t.Helper()
	if !slices.Equal(s.List(), m.list()) {
		t.Fatalf("List: %q, not %q", s.List(), m.list())
	}
	for _, private := range []bool{false, true} {
		for _, n := range odd {
			k := key{private, n}
			if s.Is(private, n) != m[k] {
				t.Fatalf("Is(%v, %d) of %q: %v", private, n, m.list(), !m[k])
			}
			if got := s.Report(private, n); got != m.report(k) {
				t.Fatalf("Report(%v, %d) of %q: %q, not %q", private, n, m.list(), got, m.report(k))
			}
		}
	}
	parsed, e := mode.Parse(m.list()...)
	if e != api.OK || parsed != s {
		t.Fatalf("Parse(%q): %v, %v", m.list(), parsed, e)
	}
}

func TestNew(t *testing.T) {
	check(t, mode.New(), told{{true, 7}: true, {true, 25}: true})
	if l := mode.New().List(); !slices.Equal(l, []string{"?7", "?25"}) {
		t.Errorf("List: %q", l)
	}
	if s := mode.New().Report(true, 7); s != "\x1b[?7;1$y" {
		t.Errorf("Report: %q", s)
	}
}

func TestKnown(t *testing.T) {
	for _, private := range []bool{false, true} {
		for n := -70000; n <= 70000; n++ {
			want := slices.Contains(hosts, n)
			if private {
				want = slices.Contains(privates, n)
			}
			if mode.Known(private, n) != want {
				t.Errorf("Known(%v, %d): %v", private, n, !want)
			}
		}
		for _, n := range []int{math.MinInt, math.MinInt + 4, 1<<32 + 4, 1<<32 + 7, 1<<16 + 25, 1<<8 + 25, math.MaxInt} {
			if mode.Known(private, n) {
				t.Errorf("Known(%v, %d)", private, n)
			}
		}
	}
}

func TestWith(t *testing.T) {
	for _, k := range all() {
		s, m := mode.New(), told{{true, 7}: true, {true, 25}: true}
		for _, on := range []bool{true, true, false, false, true} {
			before := s.List()
			next := s.With(k.private, k.n, on)
			if !slices.Equal(s.List(), before) {
				t.Fatalf("With(%v, %d, %v) changed the set that it was asked of", k.private, k.n, on)
			}
			s, m[k] = next, on
			check(t, s, m)
		}
	}
}

func TestWithOfNone(t *testing.T) {
	full, e := mode.Parse(told.list(fullTold())...)
	if e != api.OK {
		t.Fatal(e)
	}
	empty, _ := mode.Parse()
	for _, s := range []mode.Set{mode.New(), full, empty} {
		for _, private := range []bool{false, true} {
			for _, n := range odd {
				if slices.Contains(all(), key{private, n}) {
					continue
				}
				if s.With(private, n, true) != s || s.With(private, n, false) != s {
					t.Errorf("With(%v, %d) of what is none", private, n)
				}
			}
		}
	}
}

func fullTold() told {
	m := told{}
	for _, k := range all() {
		m[k] = true
	}
	return m
}

func TestReport(t *testing.T) {
	s := mode.New().With(false, 4, true)
	for _, x := range []struct {
		private bool
		n       int
		want    string
	}{
		{false, 4, "\x1b[4;1$y"}, {false, 20, "\x1b[20;2$y"}, {true, 4, "\x1b[?4;0$y"}, {true, 20, "\x1b[?20;0$y"},
		{true, 7, "\x1b[?7;1$y"}, {false, 7, "\x1b[7;0$y"}, {true, 6, "\x1b[?6;2$y"}, {true, 2004, "\x1b[?2004;2$y"},
		{false, 0, "\x1b[0;0$y"}, {true, 0, "\x1b[?0;0$y"}, {false, -4, "\x1b[-4;0$y"}, {true, -7, "\x1b[?-7;0$y"}, {true, 65535, "\x1b[?65535;0$y"},
		{false, math.MinInt64, "\x1b[-9223372036854775808;0$y"}, {true, math.MaxInt64, "\x1b[?9223372036854775807;0$y"},
	} {
		if got := s.Report(x.private, x.n); got != x.want {
			t.Errorf("Report(%v, %d): %q, not %q", x.private, x.n, got, x.want)
		}
	}
}

func TestList(t *testing.T) {
	want := []string{"4", "20", "?1", "?5", "?6", "?7", "?25", "?47", "?66", "?1000", "?1002", "?1003", "?1004", "?1006", "?1047", "?1048", "?1049", "?2004"}
	s := mode.New()
	for _, k := range slices.Backward(all()) { // in whatever order they are set
		s = s.With(k.private, k.n, true)
	}
	if !slices.Equal(s.List(), want) {
		t.Errorf("List of all: %q", s.List())
	}
	check(t, s, fullTold())
	for _, k := range all() {
		s = s.With(k.private, k.n, false)
	}
	if l := s.List(); len(l) != 0 {
		t.Errorf("List of none: %q", l)
	}
	check(t, s, told{})
}

func TestParse(t *testing.T) {
	for _, x := range []struct {
		words []string
		want  []string
	}{
		{nil, nil},
		{[]string{"4"}, []string{"4"}},
		{[]string{"?2004", "20", "?1", "4"}, []string{"4", "20", "?1", "?2004"}},
		{[]string{"?7", "?7", "?7"}, []string{"?7"}},
		{[]string{"?25", "?7", "?25"}, []string{"?7", "?25"}},
	} {
		s, e := mode.Parse(x.words...)
		if e != api.OK || !slices.Equal(s.List(), x.want) {
			t.Errorf("Parse(%q): %q, %v", x.words, s.List(), e)
		}
	}
	if s, e := mode.Parse("?25", "?7"); e != api.OK || s != mode.New() {
		t.Error("the first set, parsed")
	}
}

func TestParseOfWrongWords(t *testing.T) {
	for _, w := range []string{
		"", " ", "?", "??", "-", "0", "?0", "1", "7", "25", "2004", "?4", "?20", "?8", "?2", "?1001", "?1005", "?65535", "5", "21",
		"04", "020", "?07", "?0025", "+4", "?+7", "-4", "?-7", " 4", "4 ", "? 7", "?7 ", "?7\n", "\t?7", "??7", "7?", "4?", "?7?", "?25?7", "4,20", "?7;25", "4;", "4.0", "0x4", "4e0", "2_0",
		"\uff14", "?\u0667", "4\x00", "\x004", "?2004\xff", "?20041", "?200", "\x1b[?7h", "18446744073709551620", strings.Repeat("0", 70000) + "4",
	} {
		for _, l := range [][]string{{w}, {"4", w}, {w, "?25"}, {"4", "?7", w, "?25", "20"}, {w, w}} {
			if s, e := mode.Parse(l...); e != api.ErrWord || s != (mode.Set{}) || len(s.List()) != 0 {
				t.Errorf("Parse(%q): %q, %v", l, s.List(), e)
			}
		}
	}
	for _, private := range []bool{false, true} {
		for n := -30; n < 2100; n++ {
			k := key{private, n}
			if _, e := mode.Parse(k.word()); (e == api.OK) != slices.Contains(all(), k) || e != api.OK && e != api.ErrWord {
				t.Errorf("Parse(%q): %v", k.word(), e)
			}
		}
	}
}

func TestWhatListTellsIsParsed(t *testing.T) {
	l := all()
	set := func(bits int) (mode.Set, told) {
		s, m := mode.New().With(true, 7, false).With(true, 25, false), told{}
		for i, k := range l {
			if bits>>i&1 != 0 {
				s, m[k] = s.With(k.private, k.n, true), true
			}
		}
		return s, m
	}
	var some []int
	for i := range l {
		for j := range l {
			some = append(some, 1<<i|1<<j, 1<<len(l)-1&^(1<<i|1<<j))
		}
	}
	seed := uint64(1) // what looks like chance is the same in each run
	for range 500 {
		seed = seed*6364136223846793005 + 1442695040888963407
		some = append(some, int(seed>>33)&(1<<len(l)-1))
	}
	seen := map[mode.Set]int{}
	for _, bits := range some {
		s, m := set(bits)
		check(t, s, m)
		if other, ok := seen[s]; ok && other != bits {
			t.Fatalf("%b and %b are the same set", bits, other)
		}
		seen[s] = bits
	}
}

func TestSetsAreCompared(t *testing.T) {
	for _, k := range all() {
		s := mode.New()
		there := s.With(k.private, k.n, !s.Is(k.private, k.n))
		if there == s {
			t.Errorf("%s makes no other set", k.word())
		}
		if there.With(k.private, k.n, s.Is(k.private, k.n)) != s {
			t.Errorf("%s, there and back, is another set", k.word())
		}
	}
	a := mode.New().With(false, 4, true).With(true, 1049, true)
	b := mode.New().With(true, 1049, true).With(true, 3, true).With(false, 4, true).With(false, 20, false)
	if a != b {
		t.Error("the same modes are set, in another order")
	}
}

func TestAnyStepsAreTold(t *testing.T) {
	seed := uint64(2)
	chance := func(n int) int {
		seed = seed*6364136223846793005 + 1442695040888963407
		return int(seed >> 33 % uint64(n))
	}
	s, m := mode.New(), told{{true, 7}: true, {true, 25}: true}
	for range 3000 {
		k := key{chance(2) == 0, odd[chance(len(odd))]}
		on := chance(2) == 0
		s = s.With(k.private, k.n, on)
		if slices.Contains(all(), k) {
			m[k] = on
		}
		check(t, s, m)
	}
}

func TestNothingIsShared(t *testing.T) {
	s := mode.New()
	l := s.List()
	l[0] = "4"
	if !slices.Equal(s.List(), []string{"?7", "?25"}) || !slices.Equal(mode.New().List(), []string{"?7", "?25"}) {
		t.Error("List shares an answer")
	}
	words := []string{"?25", "?7", "4", "20"}
	if _, e := mode.Parse(words[:2]...); e != api.OK || !slices.Equal(words, []string{"?25", "?7", "4", "20"}) {
		t.Errorf("Parse changed what it was given: %q", words)
	}
	if mode.Known(false, 4); mode.New().Is(false, 4) {
		t.Error("Known sets what it was asked of")
	}
}
