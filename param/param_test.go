package param_test

import (
	"math"
	"slices"
	"strconv"
	"strings"
	"testing"

	"marquee/api"
	"marquee/param"
)

func same(a, b [][]int) bool {
	return slices.EqualFunc(a, b, func(x, y []int) bool { return slices.Equal(x, y) })
}

// many is n times the same, with a separator between.
func many(n int, s, separator string) string {
	return strings.Join(slices.Repeat([]string{s}, n), separator)
}

// groups is n groups of the values.
func groups(n int, values ...int) [][]int {
	var l [][]int
	for range n {
		l = append(l, slices.Clone(values))
	}
	return l
}

// valueTold is what digits are, by the document's words.
func valueTold(digits string) int {
	if digits == "" {
		return -1
	}
	n, err := strconv.ParseUint(digits, 10, 64)
	if err != nil { // it runs over
		n = math.MaxUint64
	}
	return int(min(n, api.MaxValue))
}

// parseTold is a head's groups, by the document's words.
func parseTold(s string) ([][]int, bool) {
	for i := range len(s) {
		if c := s[i]; (c < '0' || c > '9') && c != ';' && c != ':' {
			return nil, false
		}
	}
	var l [][]int
	for i, group := range strings.Split(s, ";") {
		if i == api.MaxGroups {
			break
		}
		var g []int
		for j, digits := range strings.Split(group, ":") {
			if j < api.MaxValues {
				g = append(g, valueTold(digits))
			}
		}
		l = append(l, g)
	}
	return l, true
}

// cleanTold is clean groups, by the document's words.
func cleanTold(l [][]int) [][]int {
	var all [][]int
	for i := 0; i < len(l) && i < 32; i++ {
		var g []int
		for j := 0; j < len(l[i]) && j < 8; j++ {
			v := l[i][j]
			switch {
			case v < 0:
				v = -1
			case v > 65535:
				v = 65535
			}
			g = append(g, v)
		}
		all = append(all, g)
	}
	if len(all) == 0 {
		all = [][]int{nil}
	}
	for i := range all {
		if len(all[i]) == 0 {
			all[i] = []int{-1}
		}
	}
	return all
}

// lists are some of all kinds: clean ones, too long ones, of too many, and of numbers beyond.
func lists() [][][]int {
	all := [][][]int{
		nil, {}, {nil}, {{}}, {{-1}}, {{0}}, {{1}, {-1}, {38, 5}},
		{nil, {}, nil}, {{}, {7}}, {{7}, {}},
		{{-1, -1}}, {{-1}, {-1}}, {{-1, 0}, {0, -1}},
		{{-2}, {math.MinInt}, {65534}, {65535}, {65536}, {math.MaxInt}},
		{{1, 2, 3, 4, 5, 6, 7, 8}}, {{1, 2, 3, 4, 5, 6, 7, 8, 9}}, {{9, 8, 7, 6, 5, 4, 3, 2, 1, -5, 70000}, {10}},
		groups(31, 1), groups(32, 1, 2), groups(33, 3), groups(100, -1), groups(40, 1, 2, 3, 4, 5, 6, 7, 8, 9, 10),
		groups(33), slices.Concat(groups(31, 5), [][]int{{}, {6}}), slices.Concat(groups(32, 5), [][]int{{6}}),
	}
	edges := []int{math.MinInt, -2, -1, 0, 1, 65535, 65536, math.MaxInt}
	for _, a := range edges {
		for _, b := range edges {
			all = append(all, [][]int{{a, b}}, [][]int{{a}, {b}}, [][]int{{}, {a, b, a}, {b}})
		}
	}
	return all
}

func TestParse(t *testing.T) {
	for _, x := range []struct {
		s    string
		want [][]int
	}{
		{"", [][]int{{-1}}},
		{"1;;38:5", [][]int{{1}, {-1}, {38, 5}}}, // the chapter's example
		{"0", [][]int{{0}}},
		{"31", [][]int{{31}}},
		{";", [][]int{{-1}, {-1}}},
		{":", [][]int{{-1, -1}}},
		{";1", [][]int{{-1}, {1}}},
		{"1;", [][]int{{1}, {-1}}},
		{":1;2:", [][]int{{-1, 1}, {2, -1}}},
		{"38:2::1:2:3;4", [][]int{{38, 2, -1, 1, 2, 3}, {4}}},
		{"007;000", [][]int{{7}, {0}}},
		{"65534;65535;65536;65537;99999;655350", [][]int{{65534}, {65535}, {65535}, {65535}, {65535}, {65535}}},
		{"4294967297;18446744073709551617", [][]int{{65535}, {65535}}}, // 1, if 32 or 64 bits ran over
		{strings.Repeat("9", 10000), [][]int{{65535}}},
		{strings.Repeat("0", 10000) + "12", [][]int{{12}}},
		{many(32, "1", ";"), groups(32, 1)},
		{many(33, "1", ";"), groups(32, 1)},
		{many(32, "1", ";") + ";", groups(32, 1)},
		{many(32, "1", ";") + ":2;3", slices.Concat(groups(31, 1), [][]int{{1, 2}})},
		{many(1000, "", ";"), groups(32, -1)},
		{many(8, "2", ":"), [][]int{slices.Repeat([]int{2}, 8)}},
		{many(9, "2", ":"), [][]int{slices.Repeat([]int{2}, 8)}},
		{many(8, "2", ":") + ":;3", [][]int{slices.Repeat([]int{2}, 8), {3}}},
		{many(1000, "", ":") + ";4", [][]int{slices.Repeat([]int{-1}, 8), {4}}},
		{many(40, many(10, "5", ":"), ";"), groups(32, slices.Repeat([]int{5}, 8)...)},
	} {
		if got, ok := param.Parse(x.s); !ok || !same(got, x.want) {
			t.Errorf("Parse(%.40q): %v, %v, not %v", x.s, got, ok, x.want)
		}
	}
}

func TestParseOfWhatIsNoHead(t *testing.T) {
	for _, s := range []string{
		"1x", "x1", "1x1", "x", " ", " 1", "1 ", "+1", "-1", "1;-1", "1,2", "1.5", "0x1f", "1_0", "?1", "<1;2", "1/2", "12<",
		"\x00", "1\n", "\x80", "\xff1", "\u0661", "1\uff11", "\u0967;2",
		many(32, "1", ";") + ";x", many(32, "1", ";") + "x", many(9, "1", ":") + "x", many(8, "1", ":") + ":x;1", strings.Repeat("9", 100) + "x",
	} {
		if got, ok := param.Parse(s); ok || len(got) != 0 {
			t.Errorf("Parse(%.40q): %v, %v", s, got, ok)
		}
	}
	for c := range 256 {
		s := string([]byte{byte(c)})
		for _, s := range []string{s, "1" + s, s + "1", "1" + s + "1"} {
			if _, ok := param.Parse(s); ok != ('0' <= c && c <= ';') {
				t.Errorf("Parse(%q): %v", s, ok)
			}
		}
	}
}

func TestParseIsTheReading(t *testing.T) {
	var check func(s string)
	check = func(s string) {
		want, head := parseTold(s)
		if got, ok := param.Parse(s); ok != head || !same(got, want) {
			t.Fatalf("Parse(%q): %v, %v, not %v, %v", s, got, ok, want, head)
		}
		if len(s) == 6 {
			return
		}
		for _, c := range []string{"0", "6", "9", ";", ":", "<"} {
			check(s + c)
		}
	}
	check("")
}

func TestClean(t *testing.T) {
	for _, x := range []struct{ l, want [][]int }{
		{nil, [][]int{{-1}}},
		{[][]int{nil}, [][]int{{-1}}},
		{[][]int{{1}, {}, {-1}, {0}}, [][]int{{1}, {-1}, {-1}, {0}}},
		{[][]int{{-2, 65536}, {math.MinInt}, {math.MaxInt, 65535}}, [][]int{{-1, 65535}, {-1}, {65535, 65535}}},
		{[][]int{{1, 2, 3, 4, 5, 6, 7, 8, 9}}, [][]int{{1, 2, 3, 4, 5, 6, 7, 8}}},
		{groups(33, 1), groups(32, 1)},
		{groups(33), groups(32, -1)},
	} {
		if got := param.Clean(x.l); !same(got, x.want) {
			t.Errorf("Clean(%v): %v, not %v", x.l, got, x.want)
		}
	}
	for _, l := range lists() {
		if got, want := param.Clean(l), cleanTold(l); !same(got, want) {
			t.Errorf("Clean(%v): %v, not %v", l, got, want)
		}
		if once := param.Clean(l); !same(param.Clean(once), once) {
			t.Errorf("clean groups of %v aren't clean: %v", l, once)
		}
	}
}

func TestText(t *testing.T) {
	for _, x := range []struct {
		l    [][]int
		want string
	}{
		{nil, ""}, {[][]int{nil}, ""}, {[][]int{{-1}}, ""}, {[][]int{{0}}, "0"},
		{[][]int{{1}, {-1}, {38, 5}}, "1;;38:5"}, // the chapter's example
		{[][]int{{-1}, {-1}}, ";"}, {[][]int{{}, {}, {}}, ";;"}, {[][]int{{-1, -1}}, ":"},
		{[][]int{{-1, 2}, {3, -1}}, ":2;3:"},
		{[][]int{{-7}, {65535, 65536}, {math.MinInt, math.MaxInt}}, ";65535:65535;:65535"},
		{[][]int{{1, 2, 3, 4, 5, 6, 7, 8, 9}, {10}}, "1:2:3:4:5:6:7:8;10"},
		{groups(33, 4), many(32, "4", ";")},
	} {
		if got := param.Text(x.l); got != x.want {
			t.Errorf("Text(%v): %q, not %q", x.l, got, x.want)
		}
	}
}

func TestGet(t *testing.T) {
	l := [][]int{{5, 6}, {-1, 7}, {}, {0}, {-9}, {70000}}
	for _, x := range []struct {
		l              [][]int
		i, usual, want int
	}{
		{l, 0, 9, 5}, {l, 1, 9, 9}, {l, 2, 9, 9}, {l, 3, 9, 0}, {l, 4, 9, 9}, {l, 5, 9, 65535},
		{l, 6, 9, 9}, {l, -1, 9, 9}, {l, math.MinInt, 9, 9}, {l, math.MaxInt, 9, 9},
		{l, 1, 0, 0}, {l, 1, -1, -1}, {l, 1, math.MinInt, math.MinInt}, {l, 6, math.MaxInt, math.MaxInt}, // the usual one may be any
		{nil, 0, 3, 3}, {nil, 1, 3, 3}, {nil, -1, 3, 3},
		{groups(33, 4), 31, 9, 4}, {groups(33, 4), 32, 9, 9},
	} {
		if got := param.Get(x.l, x.i, x.usual); got != x.want {
			t.Errorf("Get(%v, %d, %d): %d, not %d", x.l, x.i, x.usual, got, x.want)
		}
	}
}

func TestCount(t *testing.T) {
	l := [][]int{{5, 0}, {-1, 7}, {}, {0, 3}, {1}, {-9}, {70000}}
	for _, x := range []struct {
		l       [][]int
		i, want int
	}{
		{l, 0, 5}, {l, 1, 1}, {l, 2, 1}, {l, 3, 1}, {l, 4, 1}, {l, 5, 1}, {l, 6, 65535},
		{l, 7, 1}, {l, -1, 1}, {l, math.MinInt, 1}, {l, math.MaxInt, 1}, {nil, 0, 1}, {nil, 3, 1},
		{groups(33, 4), 31, 4}, {groups(33, 4), 32, 1},
	} {
		if got := param.Count(x.l, x.i); got != x.want {
			t.Errorf("Count(%v, %d): %d, not %d", x.l, x.i, got, x.want)
		}
	}
}

func TestFlat(t *testing.T) {
	for _, x := range []struct {
		l    [][]int
		want []int
	}{
		{nil, []int{0}}, {[][]int{{}}, []int{0}}, {[][]int{{3, 4}, {-1}}, []int{3, 0}},
		{[][]int{{-1, 5}, {0, 5}, {-8}, {}, {70000, 1}}, []int{0, 0, 0, 0, 65535}},
		{groups(33, 4), slices.Repeat([]int{4}, 32)},
	} {
		if got := param.Flat(x.l); !slices.Equal(got, x.want) {
			t.Errorf("Flat(%v): %v, not %v", x.l, got, x.want)
		}
	}
}

func TestAllOfCleanGroups(t *testing.T) {
	for _, l := range lists() {
		clean := cleanTold(l)
		var flat []int
		for i, g := range clean {
			flat = append(flat, max(g[0], 0))
			want, count := g[0], g[0]
			if want == -1 {
				want, count = 77, 1
			}
			if got := param.Get(l, i, 77); got != want {
				t.Errorf("Get(%v, %d, 77): %d, not %d", l, i, got, want)
			}
			if got := param.Count(l, i); got != max(count, 1) {
				t.Errorf("Count(%v, %d): %d", l, i, got)
			}
		}
		if got := param.Flat(l); !slices.Equal(got, flat) {
			t.Errorf("Flat(%v): %v, not %v", l, got, flat)
		}
		if got := param.Get(l, len(clean), 77); got != 77 {
			t.Errorf("Get(%v) behind the last: %d", l, got)
		}
	}
}

func TestTextIsParsed(t *testing.T) {
	for _, l := range lists() {
		s := param.Text(l)
		if got, ok := param.Parse(s); !ok || !same(got, cleanTold(l)) {
			t.Errorf("Parse of %q, the text of %v: %v, %v", s, l, got, ok)
		}
	}
}

func TestNothingIsSharedOrChanged(t *testing.T) {
	whole := []int{1, -5, 70000, 4, 11, 12}
	l := [][]int{whole[:2], whole[2:4], {-7}, {99}}[:3]
	param.Text(l)
	param.Get(l, 0, 1)
	param.Count(l, 0)
	param.Flat(l)
	clean := param.Clean(l)
	for i := range clean {
		clean[i] = append(clean[i], 55) // must reach no other one
	}
	if !same(clean, [][]int{{1, -1, 55}, {65535, 4, 55}, {-1, 55}}) {
		t.Errorf("clean groups share their memory: %v", clean)
	}
	clean[0][0], clean[1][1] = 8, 8
	if !slices.Equal(whole, []int{1, -5, 70000, 4, 11, 12}) || l[2][0] != -7 || l[:4][3][0] != 99 {
		t.Errorf("what was handed in was changed: %v, %v", whole, l[:4])
	}

	one, _ := param.Parse("1:2;3")
	one[0] = append(one[0], 55)
	one[0][0] = 8
	other, _ := param.Parse("1:2;3")
	if !same(one, [][]int{{8, 2, 55}, {3}}) || !same(other, [][]int{{1, 2}, {3}}) {
		t.Errorf("Parse shares an answer: %v, %v", one, other)
	}
}
