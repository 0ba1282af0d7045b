package attr_test

import (
	"math"
	"slices"
	"strconv"
	"strings"
	"testing"

	"marquee/api"
	"marquee/attr"
)

// numbered is a color of the kind 1, mixed one of the kind 2.
func numbered(n int) api.Color { return api.Color{Kind: 1, N: n} }
func mixed(n int) api.Color    { return api.Color{Kind: 2, N: n} }

func fore(c api.Color) api.Attr { return api.Attr{Fore: c} }
func back(c api.Color) api.Attr { return api.Attr{Back: c} }
func flags(f int) api.Attr      { return api.Attr{Flags: f} }

// singles is a group of each number alone.
func singles(l ...int) [][]int {
	var all [][]int
	for _, v := range l {
		all = append(all, []int{v})
	}
	return all
}

// full is an attribute in which all is set that can be.
func full() api.Attr {
	return api.Attr{Fore: numbered(200), Back: mixed(0x010203), Flags: 1023 &^ api.Under}
}

// anyAttrs are some attributes, not all of them right.
func anyAttrs() []api.Attr {
	return []api.Attr{
		{}, full(), flags(api.Under), flags(1023), flags(-1), flags(1 << 20), flags(math.MinInt), flags(math.MaxInt),
		{Fore: api.Color{Kind: 3, N: 5}, Back: api.Color{Kind: -1, N: -7}, Flags: 4096},
		{Fore: numbered(256), Back: mixed(-1)}, {Fore: api.Color{N: 5}, Back: numbered(0)},
	}
}

// flagTold is what the document says of a number: which flags come, and which go.
func flagTold(v int) (int, int) {
	switch v {
	case 1:
		return api.Bold, 0
	case 2:
		return api.Faint, 0
	case 3:
		return api.Italic, 0
	case 4:
		return api.Under, api.Double
	case 5, 6:
		return api.Blink, 0
	case 7:
		return api.Reverse, 0
	case 8:
		return api.Hidden, 0
	case 9:
		return api.Strike, 0
	case 21:
		return api.Double, api.Under
	case 22:
		return 0, api.Bold | api.Faint
	case 23:
		return 0, api.Italic
	case 24:
		return 0, api.Under | api.Double
	case 25:
		return 0, api.Blink
	case 27:
		return 0, api.Reverse
	case 28:
		return 0, api.Hidden
	case 29:
		return 0, api.Strike
	case 53:
		return api.Over, 0
	case 55:
		return 0, api.Over
	}
	return 0, 0
}

// singleTold is what a group of a number alone, but 38 and 48, makes of an attribute, by the document's words.
func singleTold(a api.Attr, v int) api.Attr {
	on, off := flagTold(v)
	a.Flags = a.Flags&^off | on
	switch {
	case v <= 0:
		a = api.Attr{}
	case 30 <= v && v <= 37:
		a.Fore = numbered(v - 30)
	case v == 39:
		a.Fore = api.Color{}
	case 40 <= v && v <= 47:
		a.Back = numbered(v - 40)
	case v == 49:
		a.Back = api.Color{}
	case 90 <= v && v <= 97:
		a.Fore = numbered(v - 82)
	case 100 <= v && v <= 107:
		a.Back = numbered(v - 92)
	}
	return a
}

// colorTold is the color that numbers make, if they do, by the document's words.
func colorTold(l []int) (api.Color, bool) {
	for i := range l {
		if l[i] = max(l[i], 0); l[i] > 255 {
			return api.Color{}, false
		}
	}
	switch len(l) {
	case 1:
		return numbered(l[0]), true
	case 3:
		return mixed(l[0]*65536 + l[1]*256 + l[2]), true
	}
	return api.Color{}, false
}

// withinTold is the color that a group 38 or 48 with more values tells, by the document's words.
func withinTold(g []int) (api.Color, bool) {
	n := len(g)
	if g[1] == 5 && n == 3 || g[1] == 2 && (n == 5 || n == 6) {
		from := map[int]int{3: 2, 5: 2, 6: 3}[n]
		return colorTold(slices.Clone(g[from:]))
	}
	return api.Color{}, false
}

// turnTold is what groups make of an attribute, by the document's words.
func turnTold(a api.Attr, l [][]int) api.Attr {
	for i := 0; i < len(l); i++ {
		g := l[i]
		if g[0] == 4 && len(g) > 1 && g[1] == 0 {
			a = singleTold(a, 24)
			continue
		}
		if g[0] == 4 && len(g) > 1 && g[1] == 2 {
			a = singleTold(a, 21)
			continue
		}
		if g[0] != 38 && g[0] != 48 {
			a = singleTold(a, g[0])
			continue
		}
		var c api.Color
		ok := false
		if len(g) > 1 {
			c, ok = withinTold(g)
		} else if i++; i < len(l) {
			var parts []int
			for more := map[int]int{5: 1, 2: 3}[l[i][0]]; more > 0 && i+1 < len(l); more-- {
				i++
				parts = append(parts, l[i][0])
				ok = more == 1
			}
			if ok {
				c, ok = colorTold(parts)
			}
		}
		if ok && g[0] == 38 {
			a.Fore = c
		} else if ok {
			a.Back = c
		}
	}
	return a
}

// eachList hands on all lists of the groups that have at most n.
func eachList(n int, of [][]int, do func(l [][]int)) {
	l := make([][]int, 0, n)
	var grow func()
	grow = func() {
		do(l)
		if len(l) == n {
			return
		}
		for _, g := range of {
			l = append(l, g)
			grow()
			l = l[:len(l)-1]
		}
	}
	grow()
}

func TestRight(t *testing.T) {
	for c, want := range map[api.Color]bool{
		{}: true, {N: 1}: false, {N: -1}: false,
		numbered(0): true, numbered(1): true, numbered(255): true, numbered(256): false, numbered(-1): false,
		mixed(0): true, mixed(256): true, mixed(0xffffff): true, mixed(0x1000000): false, mixed(-1): false,
		numbered(math.MinInt): false, numbered(math.MaxInt): false, mixed(math.MinInt): false, mixed(math.MaxInt): false,
		{Kind: 3}: false, {Kind: -1}: false, {Kind: 3, N: 7}: false, {Kind: math.MaxInt}: false, {Kind: math.MinInt}: false,
	} {
		for _, a := range []api.Attr{fore(c), back(c), {Fore: c, Back: c, Flags: api.Bold}, {Fore: c, Back: numbered(5)}, {Fore: mixed(5), Back: c}} {
			if got := attr.Right(a); got != want {
				t.Errorf("Right(%v): %v", a, got)
			}
		}
	}
	for f := -2; f <= 2050; f++ {
		want := 0 <= f && f < 1024 && (f&8 == 0 || f&256 == 0)
		if got := attr.Right(flags(f)); got != want {
			t.Errorf("Right of the flags %d: %v", f, got)
		}
	}
	for _, f := range []int{1 << 20, 1<<20 | 1, math.MinInt, math.MinInt | 1, math.MaxInt} {
		if attr.Right(flags(f)) {
			t.Errorf("Right of the flags %d", f)
		}
	}
}

func TestTurnBySingles(t *testing.T) {
	for _, a := range anyAttrs() {
		for v := -1; v <= api.MaxValue; v++ {
			if v == 38 || v == 48 {
				continue
			}
			want := singleTold(a, v)
			if got := attr.Turn(a, singles(v)); got != want {
				t.Errorf("Turn(%v) by %d: %v, not %v", a, v, got, want)
			}
			if v == 4 {
				continue
			}
			if got := attr.Turn(a, [][]int{{v, 2, 5}}); got != want { // more values mean nothing here
				t.Errorf("Turn(%v) by %d:2:5: %v, not %v", a, v, got, want)
			}
		}
	}
}

func TestTurnUnder(t *testing.T) {
	for _, x := range []struct {
		g        []int
		on, kept int
	}{
		{[]int{4}, api.Under, 0}, {[]int{4, 0}, 0, 0}, {[]int{4, 2}, api.Double, 0},
		{[]int{4, 1}, api.Under, 0}, {[]int{4, 3}, api.Under, 0}, {[]int{4, 5}, api.Under, 0}, {[]int{4, 65535}, api.Under, 0},
		{[]int{4, -1}, api.Under, 0}, // none isn't 0 here
		{[]int{4, 0, 2}, 0, 0}, {[]int{4, 2, 0}, api.Double, 0}, {[]int{4, 3, 2, 0}, api.Under, 0},
		{[]int{21, 0}, api.Double, 0}, {[]int{24, 2}, 0, 0},
	} {
		for _, f := range []int{0, api.Under, api.Double, api.Under | api.Double} {
			a := api.Attr{Fore: numbered(3), Flags: f | api.Bold}
			want := api.Attr{Fore: numbered(3), Flags: x.on | api.Bold}
			if got := attr.Turn(a, [][]int{x.g}); got != want {
				t.Errorf("Turn(%v, %v): %v, not %v", a, x.g, got, want)
			}
		}
	}
}

func TestTurnByGroupsOfColors(t *testing.T) {
	none := api.Color{Kind: 9, N: 9} // what isn't touched stays, right or not
	for _, x := range []struct {
		values []int
		want   api.Color
	}{
		{[]int{5, 200}, numbered(200)}, {[]int{5, 0}, numbered(0)}, {[]int{5, 255}, numbered(255)}, {[]int{5, 256}, none}, {[]int{5, 65535}, none},
		{[]int{5, -1}, numbered(0)},
		{[]int{5}, none}, {[]int{5, 1, 2}, none}, {[]int{5, 1, 2, 3}, none}, {[]int{5, 1, 2, 3, 4}, none},
		{[]int{2, 1, 2, 3}, mixed(0x010203)}, {[]int{2, 255, 255, 255}, mixed(0xffffff)}, {[]int{2, 0, 0, 0}, mixed(0)},
		{[]int{2, -1, 2, -1}, mixed(0x000200)},
		{[]int{2, 256, 0, 0}, none}, {[]int{2, 0, 256, 0}, none}, {[]int{2, 0, 0, 256}, none}, {[]int{2, 65535, 65535, 65535}, none},
		{[]int{2, -1, 1, 2, 3}, mixed(0x010203)}, {[]int{2, 65535, 1, 2, 3}, mixed(0x010203)}, {[]int{2, 0, -1, -1, -1}, mixed(0)},
		{[]int{2, 0, 256, 2, 3}, none}, {[]int{2, 0, 1, 256, 3}, none}, {[]int{2, 0, 1, 2, 256}, none},
		{[]int{2}, none}, {[]int{2, 1}, none}, {[]int{2, 1, 2}, none}, {[]int{2, 0, 1, 2, 3, 4}, none}, {[]int{2, 0, 1, 2, 3, 4, 5}, none},
		{[]int{-1}, none}, {[]int{0, 1}, none}, {[]int{1, 1}, none}, {[]int{3, 1, 2, 3}, none}, {[]int{-1, 5}, none}, {[]int{65535, 1, 2, 3}, none},
	} {
		for _, behind := range [][][]int{nil, singles(1), singles(1, 5, 9)} { // what comes behind is none of it
			f := flagSum(behind)
			g := [][]int{append([]int{38}, x.values...)}
			a := api.Attr{Fore: none, Back: mixed(7)}
			if got, want := attr.Turn(a, append(g, behind...)), (api.Attr{Fore: x.want, Back: mixed(7), Flags: f}); got != want {
				t.Errorf("38:%v, then %v: %v, not %v", x.values, behind, got, want)
			}
			g[0][0] = 48
			a = api.Attr{Fore: mixed(7), Back: none}
			if got, want := attr.Turn(a, append(g, behind...)), (api.Attr{Fore: mixed(7), Back: x.want, Flags: f}); got != want {
				t.Errorf("48:%v, then %v: %v, not %v", x.values, behind, got, want)
			}
		}
	}
}

// flagSum is the flags that groups of a number alone set.
func flagSum(l [][]int) int {
	sum := 0
	for _, g := range l {
		on, _ := flagTold(g[0])
		sum |= on
	}
	return sum
}

func TestTurnByColorsBehind(t *testing.T) {
	none := api.Color{Kind: 9, N: 9}
	for _, x := range []struct {
		behind [][]int
		want   api.Color
		flags  int
	}{
		{nil, none, 0},
		{singles(5), none, 0},
		{singles(5, 200), numbered(200), 0},
		{singles(5, 0, 1), numbered(0), api.Bold},
		{singles(5, -1, 1), numbered(0), api.Bold},
		{singles(5, 255, 1), numbered(255), api.Bold},
		{singles(5, 256, 1), none, api.Bold},
		{singles(2), none, 0},
		{singles(2, 1), none, 0}, // done with, so not Bold
		{singles(2, 1, 3), none, 0},
		{singles(2, 1, 2, 3), mixed(0x010203), 0},
		{singles(2, 1, 2, 3, 4), mixed(0x010203), api.Under},
		{singles(2, 255, 255, 255, 1), mixed(0xffffff), api.Bold},
		{singles(2, -1, 0, 5, 1), mixed(5), api.Bold},
		{singles(2, 256, 1, 1, 3), none, api.Italic},
		{singles(2, 1, 256, 1, 3), none, api.Italic},
		{singles(2, 1, 1, 65535, 3), none, api.Italic},
		{singles(1, 3), none, api.Italic}, // the next group alone is done with
		{singles(0, 3), none, api.Italic},
		{singles(-1, 3), none, api.Italic},
		{singles(38, 5, 200), none, api.Blink},
		{singles(65535, 5, 200), none, api.Blink},
		{[][]int{{5, 9}, {200, 7}, {1}}, numbered(200), api.Bold}, // a group's first value counts
		{[][]int{{2, 5}, {1, 7}, {2, 256}, {3, -1}, {1}}, mixed(0x010203), api.Bold},
		{[][]int{{5}, {38, 5, 1}, {1}}, numbered(38), api.Bold},
		{[][]int{{-1, 5}, {1}}, none, api.Bold},
		{[][]int{{5}, {4, 2}, {4, 2}}, numbered(4), api.Double},
	} {
		a := api.Attr{Fore: none, Back: mixed(7)}
		if got, want := attr.Turn(a, append(singles(38), x.behind...)), (api.Attr{Fore: x.want, Back: mixed(7), Flags: x.flags}); got != want {
			t.Errorf("38, then %v: %v, not %v", x.behind, got, want)
		}
		a = api.Attr{Fore: mixed(7), Back: none}
		if got, want := attr.Turn(a, append(singles(48), x.behind...)), (api.Attr{Fore: mixed(7), Back: x.want, Flags: x.flags}); got != want {
			t.Errorf("48, then %v: %v, not %v", x.behind, got, want)
		}
	}
}

func TestTurnFromTheFirstOn(t *testing.T) {
	for _, x := range []struct {
		l    [][]int
		want api.Attr
	}{
		{[][]int{{1}, {38}, {5}, {200}}, api.Attr{Fore: numbered(200), Flags: api.Bold}}, // the chapter's example
		{singles(1, 0), api.Attr{}},
		{singles(0, 1), flags(api.Bold)},
		{singles(1, -1, 3), flags(api.Italic)},
		{singles(4, 21), flags(api.Double)},
		{singles(21, 4), flags(api.Under)},
		{singles(1, 2, 22, 53), flags(api.Over)},
		{singles(31, 39, 41, 42), back(numbered(2))},
		{singles(38, 5, 1, 48, 5, 2), api.Attr{Fore: numbered(1), Back: numbered(2)}},
		{singles(38, 48, 5, 2), flags(api.Blink | api.Faint)},
		{[][]int{{38, 5, 1}, {48, 2, 1, 2, 3}, {7}}, api.Attr{Fore: numbered(1), Back: mixed(0x010203), Flags: api.Reverse}},
	} {
		if got := attr.Turn(api.Attr{}, x.l); got != x.want {
			t.Errorf("Turn by %v: %v, not %v", x.l, got, x.want)
		}
	}
	for _, a := range anyAttrs() {
		if attr.Turn(a, nil) != a || attr.Turn(a, [][]int{}) != a {
			t.Errorf("Turn(%v) by no groups", a)
		}
	}
}

func TestTurnByManyGroups(t *testing.T) {
	l := singles(slices.Repeat([]int{1, 38, 5, 7}, 1000)...)
	if got, want := attr.Turn(api.Attr{}, l), (api.Attr{Fore: numbered(7), Flags: api.Bold}); got != want {
		t.Errorf("Turn by 4000 groups: %v", got)
	}
	l = append(singles(slices.Repeat([]int{26}, 100000)...), []int{9}) // none is left out here
	if got := attr.Turn(api.Attr{}, l); got != flags(api.Strike) {
		t.Errorf("Turn by 100001 groups: %v", got)
	}
}

func TestTurnIsTheReading(t *testing.T) {
	check := func(l [][]int) {
		for _, a := range []api.Attr{{}, full(), flags(-1)} {
			if got, want := attr.Turn(a, l), turnTold(a, l); got != want {
				t.Fatalf("Turn(%v, %v): %v, not %v", a, l, got, want)
			}
		}
	}
	eachList(3, [][]int{
		{-1}, {0}, {1}, {2}, {4}, {4, 0}, {4, -1}, {4, 2}, {4, 3}, {5}, {21}, {24}, {31}, {49}, {97}, {107}, {255}, {256}, {65535}, {0, 1}, {-1, 2},
		{38}, {38, -1}, {38, 5}, {38, 5, 9}, {38, 5, -1}, {38, 5, 256}, {38, 5, 1, 2}, {38, 2, 1, 2, 3}, {38, 2, 999, 1, -1, 3}, {38, 2, 1, 2, 3, 4, 5},
		{48}, {48, 5, 255}, {48, 2, 1, 256, 3}, {48, 2, 1, 2}, {48, 2, 1, 2, 3}, {48, 2, 0, 1, 2, 3, 4, 5}, {5, 2}, {2, 5},
	}, check)
	eachList(6, [][]int{{38}, {48}, {5}, {2}, {-1}, {255, 1}, {256}, {4, 2}}, check)
}

// TestTurnByAnyGroups: of groups that are none of clean ones nothing is promised but an end.
func TestTurnByAnyGroups(t *testing.T) {
	of := [][]int{nil, {}, {math.MinInt}, {math.MaxInt}, {38}, {5}, {2}, {38, math.MinInt}, {48, math.MaxInt, 1}, {48, 2, math.MinInt, math.MaxInt, -9}, {4, math.MinInt}, slices.Repeat([]int{38}, 100)}
	eachList(4, of, func(l [][]int) { attr.Turn(full(), l) })
}

func TestText(t *testing.T) {
	for _, x := range []struct {
		a    api.Attr
		want string
	}{
		{api.Attr{}, "0"},
		{api.Attr{Fore: numbered(200), Flags: api.Bold}, "0;1;38;5;200"}, // the chapter's example
		{flags(api.Bold), "0;1"}, {flags(api.Faint), "0;2"}, {flags(api.Italic), "0;3"}, {flags(api.Under), "0;4"}, {flags(api.Blink), "0;5"},
		{flags(api.Reverse), "0;7"}, {flags(api.Hidden), "0;8"}, {flags(api.Strike), "0;9"}, {flags(api.Double), "0;21"}, {flags(api.Over), "0;53"},
		{flags(1023 &^ api.Double), "0;1;2;3;4;5;7;8;9;53"}, {flags(1023 &^ api.Under), "0;1;2;3;5;7;8;9;21;53"},
		{fore(numbered(0)), "0;38;5;0"}, {back(numbered(255)), "0;48;5;255"},
		{fore(mixed(0)), "0;38;2;0;0;0"}, {back(mixed(0xffffff)), "0;48;2;255;255;255"}, {fore(mixed(0x0a0b0c)), "0;38;2;10;11;12"},
		{full(), "0;1;2;3;5;7;8;9;21;53;38;5;200;48;2;1;2;3"},
		{flags(1023), ""}, {flags(api.Under | api.Double), ""}, {flags(1024), ""}, {flags(-1), ""},
		{fore(numbered(256)), ""}, {back(numbered(-1)), ""}, {fore(mixed(0x1000000)), ""}, {back(api.Color{N: 1}), ""}, {fore(api.Color{Kind: 3}), ""},
	} {
		if got := attr.Text(x.a); got != x.want {
			t.Errorf("Text(%v): %q, not %q", x.a, got, x.want)
		}
	}
}

func TestChange(t *testing.T) {
	for _, a := range anyAttrs() {
		for _, b := range anyAttrs() {
			want := attr.Text(b)
			if a == b {
				want = ""
			}
			if got := attr.Change(a, b); got != want {
				t.Errorf("Change(%v, %v): %q, not %q", a, b, got, want)
			}
		}
	}
	if got := attr.Change(full(), api.Attr{}); got != "0" {
		t.Errorf("Change to the zero one: %q", got)
	}
	if got := attr.Change(flags(api.Bold), flags(api.Italic)); got != "0;3" {
		t.Errorf("Change from Bold to Italic: %q", got)
	}
	if got := attr.Change(fore(numbered(3)), back(numbered(3))); got != "0;48;5;3" {
		t.Errorf("Change from a Fore to a Back: %q", got)
	}
	if got := attr.Change(api.Attr{}, flags(1024)); got != "" {
		t.Errorf("Change to one that isn't right: %q", got)
	}
}

// rightAttrs are all right flags, with some right colors.
func rightAttrs() []api.Attr {
	var l []api.Attr
	colors := []api.Color{{}, numbered(0), numbered(7), numbered(255), mixed(0), mixed(0x0100ff), mixed(0xffffff)}
	for f := range 1024 {
		if f&api.Under != 0 && f&api.Double != 0 {
			continue
		}
		for _, c := range colors {
			for _, d := range colors {
				l = append(l, api.Attr{Fore: c, Back: d, Flags: f})
			}
		}
	}
	return l
}

func TestNumbersTurnToTheirAttribute(t *testing.T) {
	for _, a := range rightAttrs() {
		var l [][]int
		for _, s := range strings.Split(attr.Text(a), ";") {
			n, err := strconv.Atoi(s)
			if err != nil {
				t.Fatalf("Text(%v): %q", a, attr.Text(a))
			}
			l = append(l, []int{n})
		}
		if len(l) > api.MaxGroups {
			t.Fatalf("Text(%v) has %d groups", a, len(l))
		}
		for _, from := range anyAttrs() {
			if got := attr.Turn(from, l); got != a {
				t.Fatalf("Turn(%v, %v): %v, not %v", from, l, got, a)
			}
		}
	}
}

func TestWhatIsTurnedIsRight(t *testing.T) {
	for _, a := range []api.Attr{{}, full(), {Fore: mixed(0xffffff), Back: numbered(255), Flags: api.Under}} {
		check := func(l [][]int) {
			if got := attr.Turn(a, l); !attr.Right(got) {
				t.Fatalf("Turn(%v, %v): %v isn't right", a, l, got)
			}
		}
		for v := -1; v <= 300; v++ {
			for w := -1; w <= 300; w++ {
				check(singles(v, w))
				check([][]int{{v, w}})
				check([][]int{{38, v, w}})
				check([][]int{{48, v, w, w, v}})
			}
		}
		eachList(5, singles(-1, 4, 21, 38, 48, 5, 2, 255, 256, 65535), check)
	}
}

func TestNothingIsChanged(t *testing.T) {
	whole := []int{38, 2, -1, 70, 80, 90, 1}
	l := [][]int{whole[:5], {48}, {2}, {-1}, {7}, {8}, {4}, {99}}[:7]
	if got, want := attr.Turn(api.Attr{}, l), (api.Attr{Fore: mixed(0x004650), Back: mixed(0x000708), Flags: api.Under}); got != want {
		t.Errorf("Turn: %v, not %v", got, want)
	}
	if !slices.Equal(whole, []int{38, 2, -1, 70, 80, 90, 1}) || l[3][0] != -1 || l[:8][7][0] != 99 {
		t.Errorf("what was handed in was changed: %v, %v", whole, l[:8])
	}
}
