package find_test

import (
	"math"
	"slices"
	"strings"
	"testing"

	"marquee/find"
)

// outcome is all that is answered of a needle, but for Next and Ahead.
type outcome struct {
	text, needle      string
	all, loose, apart []int
}

var outcomes = []outcome{
	{"aaaa", "aa", []int{0, 1, 2}, []int{0, 1, 2}, []int{0, 2}}, // the chapter's example
	{"aaaaa", "aa", []int{0, 1, 2, 3}, []int{0, 1, 2, 3}, []int{0, 2}},
	{"abababa", "aba", []int{0, 2, 4}, []int{0, 2, 4}, []int{0, 4}},
	{"abaababaab", "abaab", []int{0, 5}, []int{0, 5}, []int{0, 5}},
	{"aabaaabaaac", "aabaaac", []int{4}, []int{4}, []int{4}}, // of aabaaab the end aab goes on
	{"aaab", "aab", []int{1}, []int{1}, []int{1}},
	{"xAbB", "aBb", nil, []int{1}, nil},
	{"AbaB", "ab", nil, []int{0, 2}, nil},
	{"abab", "AB", nil, []int{0, 2}, nil},
	{"aAaA", "aA", []int{0, 2}, []int{0, 1, 2}, []int{0, 2}},
	{"AZ[@az{`", "az", []int{4}, []int{0, 4}, []int{4}},
	{"AZ[@az{`", "{`", []int{6}, []int{6}, []int{6}}, // [ and @ stand beside the letters and aren't any
	{"\u00c4", "\u00e4", nil, nil, nil},              // nor are others than A to Z
	{"\u3042\u3042", "\x82", []int{2, 5}, []int{2, 5}, []int{2, 5}},
	{"\xff\x00\xff", "\xff", []int{0, 2}, []int{0, 2}, []int{0, 2}},
	{"\x00\x00", "\x00", []int{0, 1}, []int{0, 1}, []int{0, 1}},
	{"a\nb", "\n", []int{1}, []int{1}, []int{1}},
	{"abc", "abc", []int{0}, []int{0}, []int{0}},
	{"abc", "abcd", nil, nil, nil},
	{"abc", "d", nil, nil, nil},
	{"abc", "", nil, nil, nil}, // the empty needle stands nowhere
	{"", "", nil, nil, nil},
	{"", "a", nil, nil, nil},
}

func TestOutcomes(t *testing.T) {
	for _, x := range outcomes {
		if l := find.All(x.text, x.needle); !slices.Equal(l, x.all) {
			t.Errorf("All(%q, %q): %v", x.text, x.needle, l)
		}
		if l := find.Loose(x.text, x.needle); !slices.Equal(l, x.loose) {
			t.Errorf("Loose(%q, %q): %v", x.text, x.needle, l)
		}
		if l := find.Apart(x.text, x.needle); !slices.Equal(l, x.apart) {
			t.Errorf("Apart(%q, %q): %v", x.text, x.needle, l)
		}
		if n := find.Count(x.text, x.needle); n != len(x.all) {
			t.Errorf("Count(%q, %q): %d", x.text, x.needle, n)
		}
	}
}

// TestSteps holds Next and Ahead of abab, in which ab stands at 0 and 2, from any number.
func TestSteps(t *testing.T) {
	for _, x := range []struct {
		from, next, ahead int
		hasNext, hasAhead bool
		what              string
	}{
		{math.MinInt, 0, 0, true, false, "far below"},
		{-1, 0, 0, true, false, "below"},
		{0, 0, 0, true, false, "at the first one"},
		{1, 2, 0, true, true, "between"},
		{2, 2, 0, true, true, "at the second one"},
		{3, 0, 2, false, true, "behind"},
		{4, 0, 2, false, true, "at the end"},
		{5, 0, 2, false, true, "behind the end"},
		{math.MaxInt, 0, 2, false, true, "far"},
	} {
		if at, ok := find.Next("abab", "ab", x.from); at != x.next || ok != x.hasNext {
			t.Errorf("Next, %s: %d %v", x.what, at, ok)
		}
		if at, ok := find.Ahead("abab", "ab", x.from); at != x.ahead || ok != x.hasAhead {
			t.Errorf("Ahead, %s: %d %v", x.what, at, ok)
		}
	}
}

func TestStepsOfNone(t *testing.T) {
	for _, needle := range []string{"", "c", "AB", "ababa"} {
		for _, from := range []int{math.MinInt, -1, 0, 1, 4, 5, math.MaxInt} {
			if at, ok := find.Next("abab", needle, from); at != 0 || ok {
				t.Errorf("Next(%q, %d): %d %v", needle, from, at, ok)
			}
			if at, ok := find.Ahead("abab", needle, from); at != 0 || ok {
				t.Errorf("Ahead(%q, %d): %d %v", needle, from, at, ok)
			}
		}
	}
}

// TestLongAlike goes through texts and needles whose bytes are alike: if each place were looked at anew, this wouldn't end in a man's time.
func TestLongAlike(t *testing.T) {
	const half = 1 << 19
	text := strings.Repeat("a", 2*half)
	for _, end := range []string{"", "b"} {
		needle := strings.Repeat("a", half) + end
		all := find.All(text+end, needle)
		if end == "" && (len(all) != half+1 || all[0] != 0 || all[half] != half) {
			t.Error("All:", len(all))
		}
		if end == "b" && !slices.Equal(all, []int{half}) {
			t.Error("All:", all)
		}
		if n := len(find.Loose(text+end, strings.ToUpper(needle))); n != len(all) {
			t.Error("Loose:", n)
		}
		if n := find.Count(text+end, needle); n != len(all) {
			t.Error("Count:", n)
		}
	}
	if l := find.Apart(text, strings.Repeat("a", half)); !slices.Equal(l, []int{0, half}) {
		t.Error("Apart:", l)
	}
	if at, ok := find.Ahead(text, strings.Repeat("a", half), math.MaxInt); !ok || at != half {
		t.Error("Ahead:", at, ok)
	}
}

func TestAnswersAreNew(t *testing.T) {
	for what, f := range map[string]func(text, needle string) []int{"All": find.All, "Loose": find.Loose, "Apart": find.Apart} {
		l := f("aaaa", "aa")
		for i := range l[:cap(l)] {
			l[:cap(l)][i] = -1
		}
		if got := f("aaaa", "aa"); got[0] != 0 || got[len(got)-1] != 2 {
			t.Errorf("%s: %v", what, got)
		}
	}
}
