package hunt_test

import (
	"math"
	"slices"
	"strconv"
	"strings"
	"testing"

	"marquee/api"
	"marquee/hunt"
)

// outcome is all that is answered of some needles; hits are written as pairs of a place and a number.
type outcome struct {
	text         string
	needles      []string
	all, longest [][2]int
	replaced     string // the needle i by <i>
}

var outcomes = []outcome{
	{"abab", []string{"a", "ab"}, [][2]int{{0, 0}, {0, 1}, {2, 0}, {2, 1}}, [][2]int{{0, 1}, {2, 1}}, "<1><1>"}, // the chapter's example
	{"abab", []string{"ab", "a"}, [][2]int{{0, 0}, {0, 1}, {2, 0}, {2, 1}}, [][2]int{{0, 0}, {2, 0}}, "<0><0>"},
	{"aab", []string{"a", "ab", "aa"}, [][2]int{{0, 0}, {0, 2}, {1, 0}, {1, 1}}, [][2]int{{0, 2}}, "<2>b"},
	{"aaaa", []string{"aa"}, [][2]int{{0, 0}, {1, 0}, {2, 0}}, [][2]int{{0, 0}, {2, 0}}, "<0><0>"},
	{"xaax", []string{"a", "a", "a"}, [][2]int{{1, 0}, {1, 1}, {1, 2}, {2, 0}, {2, 1}, {2, 2}}, [][2]int{{1, 0}, {2, 0}}, "x<0><0>x"},
	{"ab", []string{"b", "b", "ab", "ab"}, [][2]int{{0, 2}, {0, 3}, {1, 0}, {1, 1}}, [][2]int{{0, 2}}, "<2>"},
	{"abcd", []string{"bcd", "ab", "cd"}, [][2]int{{0, 1}, {1, 0}, {2, 2}}, [][2]int{{0, 1}, {2, 2}}, "<1><2>"}, // the one that comes first isn't the longest of all
	{"abcde", []string{"bc", "d", "c"}, [][2]int{{1, 0}, {2, 2}, {3, 1}}, [][2]int{{1, 0}, {3, 1}}, "a<0><1>e"},
	{"abab", []string{"", "a", ""}, [][2]int{{0, 1}, {2, 1}}, [][2]int{{0, 1}, {2, 1}}, "<1>b<1>b"},
	{"aA", []string{"A", "a"}, [][2]int{{0, 1}, {1, 0}}, [][2]int{{0, 1}, {1, 0}}, "<1><0>"}, // not loosely
	{"\xff\x00\xff", []string{"\xff"}, [][2]int{{0, 0}, {2, 0}}, [][2]int{{0, 0}, {2, 0}}, "<0>\x00<0>"},
	{"abc", []string{"d", "abcd"}, nil, nil, "abc"},
	{"abc", []string{""}, nil, nil, "abc"},
	{"abc", nil, nil, nil, "abc"},
	{"", []string{"a", ""}, nil, nil, ""},
	{"", nil, nil, nil, ""},
}

func hits(l [][2]int) []api.Hit {
	var all []api.Hit
	for _, x := range l {
		all = append(all, api.Hit{At: x[0], Which: x[1]})
	}
	return all
}

func name(i int) string {
	return "<" + strconv.Itoa(i) + ">"
}

func TestOutcomes(t *testing.T) {
	for _, x := range outcomes {
		all, longest := hits(x.all), hits(x.longest)
		if l := hunt.All(x.text, x.needles...); !slices.Equal(l, all) {
			t.Errorf("All(%q, %q): %v", x.text, x.needles, l)
		}
		if l := hunt.Longest(x.text, x.needles...); !slices.Equal(l, longest) {
			t.Errorf("Longest(%q, %q): %v", x.text, x.needles, l)
		}
		if s := hunt.Replace(x.text, name, x.needles...); s != x.replaced {
			t.Errorf("Replace(%q, %q): %q", x.text, x.needles, s)
		}
		h := hunt.New(x.text, x.needles...)
		for i, want := range all {
			if n := h.Left(); n != len(all)-i {
				t.Errorf("Left of %q in %q, %d: %d", x.needles, x.text, i, n)
			}
			if got, ok := h.Next(); !ok || got != want {
				t.Errorf("Next of %q in %q, %d: %v %v", x.needles, x.text, i, got, ok)
			}
		}
		for range 2 {
			if got, ok := h.Next(); ok || got != (api.Hit{}) || h.Left() != 0 {
				t.Errorf("Next of %q in %q at the end: %v %v", x.needles, x.text, got, ok)
			}
		}
	}
}

func TestFirst(t *testing.T) {
	all := []api.Hit{{At: 0, Which: 0}, {At: 0, Which: 1}, {At: 1, Which: 0}, {At: 2, Which: 0}}
	for n, want := range map[int]int{math.MinInt: 0, -1: 0, 0: 0, 1: 1, 2: 2, 3: 3, 4: 4, 5: 4, math.MaxInt: 4} {
		if l := hunt.First("aaa", n, "a", "aaa"); !slices.Equal(l, all[:want]) {
			t.Errorf("First of %d: %v", n, l)
		}
	}
}

func TestNil(t *testing.T) {
	var h *hunt.Hunt
	if x, ok := h.Next(); ok || x != (api.Hit{}) {
		t.Error("Next:", x, ok)
	}
	if n := h.Left(); n != 0 {
		t.Error("Left:", n)
	}
}

// TestWith holds which numbers are asked for, and what stands there of a function that is none, or that answers what a needle stands in.
func TestWith(t *testing.T) {
	var asked []int
	s := hunt.Replace("abcab", func(i int) string {
		asked = append(asked, i)
		return strings.Repeat("ab", i)
	}, "c", "b", "a")
	if s != "ababab"+""+"ababab"[:4]+"ab" || !slices.Equal(asked, []int{2, 1, 0, 2, 1}) {
		t.Errorf("%q, asked %v", s, asked)
	}
	if s := hunt.Replace("abcab", nil, "b", "ca"); s != "a" {
		t.Errorf("of a nil: %q", s)
	}
	if s := hunt.Replace("abc", nil); s != "abc" {
		t.Errorf("of a nil, without needles: %q", s)
	}
	s = hunt.Replace("abab", func(i int) string { return []string{"x"}[i] }, "a", "b")
	if s != "xx" {
		t.Errorf("of one that panics: %q", s)
	}
}

// TestHuntsStandAlone goes on in two hunts of the same needles by turns, while the list that they were handed in becomes another.
func TestHuntsStandAlone(t *testing.T) {
	needles := append(make([]string, 0, 8), "a", "aa")
	h, other := hunt.New("aaa", needles...), hunt.New("aaa", needles...)
	if spare := needles[:8]; spare[2] != "" || spare[0] != "a" || spare[1] != "aa" {
		t.Error("changed:", spare)
	}
	needles[0], needles[1] = "b", "b"
	for i, want := range []api.Hit{{}, {Which: 1}, {At: 1}, {At: 1, Which: 1}, {At: 2}} {
		if x, ok := h.Next(); !ok || x != want || other.Left() != 5-i {
			t.Error(i, x, ok, other.Left())
		}
		if x, ok := other.Next(); !ok || x != want {
			t.Error(i, x, ok)
		}
	}
}

// TestManyHits goes through long texts with needles whose bytes are alike.
func TestManyHits(t *testing.T) {
	const half = 1 << 17
	text := strings.Repeat("a", 2*half)
	needle := text[:half]
	if l := hunt.All(text, needle, "b", needle); len(l) != 2*half+2 || l[2*half+1] != (api.Hit{At: half, Which: 2}) {
		t.Error("All:", len(l))
	}
	if l := hunt.Longest(text, "a", needle); !slices.Equal(l, []api.Hit{{At: 0, Which: 1}, {At: half, Which: 1}}) {
		t.Error("Longest:", l)
	}
	if s := hunt.Replace(text, func(int) string { return "bc" }, "a"); s != strings.Repeat("bc", 2*half) {
		t.Error("Replace:", len(s))
	}
}
