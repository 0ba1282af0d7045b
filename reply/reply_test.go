package reply_test

import (
	"fmt"
	"math"
	"reflect"
	"regexp"
	"strings"
	"testing"

	"marquee/api"
	"marquee/attr"
	"marquee/param"
	"marquee/reply"
)

// edges is numbers at which a side's end stands, and those far off.
var edges = []int{math.MinInt, math.MinInt + 1, -1 << 32, -1001, -1000, -2, -1, 0, 1, 2, 9, 10, 99, 100, 498, 998, 999, 1000, 1001, 1002, 65535, 65536, 1 << 32, 1<<32 + 5, math.MaxInt - 1, math.MaxInt}

// brought is a number brought to 0 to MaxSide.
func brought(n int) int {
	switch {
	case n < 0:
		return 0
	case n > 1000:
		return 1000
	}
	return n
}

func TestWhatTheTerminalIs(t *testing.T) {
	for _, x := range []struct{ got, want string }{
		{reply.Primary(), "\x1b[?62;22c"},
		{reply.Secondary(), "\x1b[>1;10;0c"},
		{reply.Fine(), "\x1b[0n"},
	} {
		if x.got != x.want {
			t.Errorf("%q, not %q", x.got, x.want)
		}
	}
}

func TestCursor(t *testing.T) {
	for _, x := range []struct {
		y, x    int
		private bool
		want    string
	}{
		{0, 4, false, "\x1b[1;5R"}, {0, 4, true, "\x1b[?1;5R"}, {2, 0, true, "\x1b[?3;1R"}, {0, 0, false, "\x1b[1;1R"},
		{-1, -5, false, "\x1b[1;1R"}, {999, 1000, false, "\x1b[1000;1001R"}, {1001, 5000, true, "\x1b[?1001;1001R"},
		{math.MinInt, math.MaxInt, false, "\x1b[1;1001R"}, {math.MaxInt, math.MinInt, true, "\x1b[?1001;1R"},
	} {
		if got := reply.Cursor(x.y, x.x, x.private); got != x.want {
			t.Errorf("Cursor(%d, %d, %v): %q, not %q", x.y, x.x, x.private, got, x.want)
		}
	}
	for _, y := range edges {
		for _, x := range edges {
			numbers := fmt.Sprintf("%d;%d", brought(y)+1, brought(x)+1)
			if got := reply.Cursor(y, x, false); got != "\x1b["+numbers+"R" {
				t.Errorf("Cursor(%d, %d, false): %q", y, x, got)
			}
			if got := reply.Cursor(y, x, true); got != "\x1b[?"+numbers+"R" {
				t.Errorf("Cursor(%d, %d, true): %q", y, x, got)
			}
		}
	}
}

func TestSize(t *testing.T) {
	for _, x := range []struct {
		rows, cols int
		want       string
	}{
		{24, 80, "\x1b[8;24;80t"}, {0, 0, "\x1b[8;0;0t"}, {-1, 1001, "\x1b[8;0;1000t"}, {1000, 999, "\x1b[8;1000;999t"},
		{math.MaxInt, math.MinInt, "\x1b[8;1000;0t"},
	} {
		if got := reply.Size(x.rows, x.cols); got != x.want {
			t.Errorf("Size(%d, %d): %q, not %q", x.rows, x.cols, got, x.want)
		}
	}
	for _, rows := range edges {
		for _, cols := range edges {
			if got, want := reply.Size(rows, cols), fmt.Sprintf("\x1b[8;%d;%dt", brought(rows), brought(cols)); got != want {
				t.Errorf("Size(%d, %d): %q, not %q", rows, cols, got, want)
			}
		}
	}
}

func TestSettingOfAttributes(t *testing.T) {
	number := func(n int) api.Color { return api.Color{Kind: 1, N: n} }
	for _, x := range []struct {
		a    api.Attr
		want string
	}{
		{api.Attr{}, "0"},
		{api.Attr{Flags: api.Bold}, "0;1"},
		{api.Attr{Flags: api.Bold, Fore: number(200)}, "0;1;38;5;200"},
		{api.Attr{Flags: api.Over | api.Double, Back: api.Color{Kind: 2, N: 0x01ff80}}, "0;21;53;48;2;1;255;128"},
		{api.Attr{Fore: number(0), Back: number(255)}, "0;38;5;0;48;5;255"},
		{api.Attr{Flags: api.Under | api.Double}, "0"}, // the rest aren't right
		{api.Attr{Flags: 1024}, "0"}, {api.Attr{Flags: -1}, "0"}, {api.Attr{Flags: math.MinInt}, "0"},
		{api.Attr{Flags: api.Bold, Fore: number(256)}, "0"}, {api.Attr{Flags: api.Bold, Back: number(-1)}, "0"},
		{api.Attr{Fore: api.Color{Kind: 0, N: 1}}, "0"}, {api.Attr{Back: api.Color{Kind: 3}}, "0"}, {api.Attr{Back: api.Color{Kind: 2, N: 0x1000000}}, "0"},
	} {
		for _, side := range [][2]int{{0, 0}, {0, 23}, {-5, 5000}, {math.MinInt, math.MaxInt}} { // which says nothing here
			if got, want := reply.Setting("m", x.a, side[0], side[1]), "\x1bP1$r"+x.want+"m\x1b\\"; got != want {
				t.Errorf("Setting of m, %v, %v: %q, not %q", x.a, side, got, want)
			}
		}
	}
	for flags := range 1024 {
		for _, c := range []api.Color{{}, number(7), {Kind: 2, N: 0xff00ff}} {
			a := api.Attr{Fore: c, Back: c, Flags: flags}
			want := "\x1bP1$r" + attr.Text(a) + "m\x1b\\"
			if flags&(api.Under|api.Double) == api.Under|api.Double {
				want = "\x1bP1$r0m\x1b\\"
			}
			if got := reply.Setting("m", a, 0, 0); got != want {
				t.Errorf("Setting of m, %v: %q, not %q", a, got, want)
			}
		}
	}
}

func TestSettingOfMargins(t *testing.T) {
	if got := reply.Setting("r", api.Attr{}, 0, 23); got != "\x1bP1$r1;24r\x1b\\" {
		t.Errorf("Setting of r: %q", got)
	}
	for _, a := range []api.Attr{{}, {Flags: api.Bold}, {Flags: -1}} { // which says nothing here
		for _, top := range edges {
			for _, bottom := range edges {
				want := fmt.Sprintf("\x1bP1$r%d;%dr\x1b\\", brought(top)+1, brought(bottom)+1)
				if got := reply.Setting("r", a, top, bottom); got != want {
					t.Errorf("Setting of r, %d, %d: %q, not %q", top, bottom, got, want)
				}
			}
		}
	}
}

func TestSettingOfOthers(t *testing.T) {
	var names []string
	for c := range 256 {
		if c != 'm' && c != 'r' {
			names = append(names, string([]byte{byte(c)}))
		}
	}
	names = append(names, "", "mm", "rr", "mr", "rm", " m", "m ", "m\x00", "r\n", "1m", " q", "\"p", "\"q", "\uff4d", strings.Repeat("m", 70000))
	for _, name := range names {
		for _, a := range []api.Attr{{}, {Flags: api.Bold}} {
			if got := reply.Setting(name, a, 0, 23); got != "\x1bP0$r\x1b\\" {
				t.Errorf("Setting of %q: %q", name, got)
			}
		}
	}
}

// form is what a text that is read looks like.
var form = regexp.MustCompile(`^\x1b\[[<-?]?([0-;]{0,256})([@-~])\z`)

// checkRead holds what is read of a text against the document's words.
func checkRead(t *testing.T, s string) {
	t.Helper()
	c, l, e := reply.Read(s)
	m := form.FindStringSubmatch(s)
	if m == nil {
		if c != 0 || l != nil || e != api.ErrForm {
			t.Errorf("Read(%q): %q, %v, %v", s, c, l, e)
		}
		return
	}
	groups, _ := param.Parse(m[1])
	if c != m[2][0] || !reflect.DeepEqual(l, groups) || e != api.OK {
		t.Errorf("Read(%q): %q, %v, %v", s, c, l, e)
	}
}

func TestRead(t *testing.T) {
	for _, x := range []struct {
		s    string
		c    byte
		want [][]int
	}{
		{"\x1b[1;5R", 'R', [][]int{{1}, {5}}},
		{"\x1b[m", 'm', [][]int{{-1}}},
		{"\x1b[@", '@', [][]int{{-1}}},
		{"\x1b[~", '~', [][]int{{-1}}},
		{"\x1b[?~", '~', [][]int{{-1}}},
		{"\x1b[[", '[', [][]int{{-1}}},
		{"\x1b[?62;22c", 'c', [][]int{{62}, {22}}},
		{"\x1b[>1;10;0c", 'c', [][]int{{1}, {10}, {0}}},
		{"\x1b[<0;3;4M", 'M', [][]int{{0}, {3}, {4}}},
		{"\x1b[=5u", 'u', [][]int{{5}}},
		{"\x1b[1;;38:5:m", 'm', [][]int{{1}, {-1}, {38, 5, -1}}},
		{"\x1b[00070000;65536:65535h", 'h', [][]int{{65535}, {65535, 65535}}},
		{"\x1b[:h", 'h', [][]int{{-1, -1}}},
		{"\x1b[;h", 'h', [][]int{{-1}, {-1}}},
		{"\x1b[1:2:3:4:5:6:7:8:9;10h", 'h', [][]int{{1, 2, 3, 4, 5, 6, 7, 8}, {10}}},
	} {
		c, l, e := reply.Read(x.s)
		if c != x.c || !reflect.DeepEqual(l, x.want) || e != api.OK {
			t.Errorf("Read(%q): %q, %v, %v", x.s, c, l, e)
		}
		checkRead(t, x.s)
	}
}

func TestReadOfWrongTexts(t *testing.T) {
	for _, s := range []string{
		"", "\x1b", "[", "\x1b[", "[1m", "1m", "m", "\x1b1m", "\x9b1m", "\x1b\x1b[1m", " \x1b[1m", "\x1b[1m ", "\x1b[1m\n", "\x1b[1m\x00", "\x1b[1mm", "\x1b[1m\x1b[2m",
		"\x1b[?", "\x1b[<", "\x1b[1", "\x1b[1;", "\x1b[?1", "\x1b[??1h", "\x1b[1?h", "\x1b[>?h", "\x1b[1$y", "\x1b[!p", "\x1b[ q", "\x1b[1 q", "\x1b[-1m", "\x1b[+1m", "\x1b[1.5m", "\x1b[1,5m",
		"\x1b[1\x7f", "\x1b[\x7f", "\x1b[1\x80", "\x1b[1\xff", "\x1b[1\x00m", "\x1b[1\x1bm", "\x1b[1\nm", "\x1b[\u3042", "\x1b[\uff11m", "\x1b]0;a\a", "\x1bP1$r0m\x1b\\", "\x1bc",
	} {
		if c, l, e := reply.Read(s); c != 0 || l != nil || e != api.ErrForm {
			t.Errorf("Read(%q): %q, %v, %v", s, c, l, e)
		}
		checkRead(t, s)
	}
}

func TestReadOfAllShortTexts(t *testing.T) {
	const bytes = "\x1b[<?0;:/@m~\x7f\x80"
	var each func(s string, more int)
	each = func(s string, more int) {
		checkRead(t, s)
		if more == 0 {
			return
		}
		for i := range len(bytes) {
			each(s+bytes[i:i+1], more-1)
		}
	}
	each("", 4)
	each("\x1b[", 4)
}

func TestReadOfEachByte(t *testing.T) {
	for c := range 256 {
		b := string([]byte{byte(c)})
		for _, s := range []string{b + "[1m", "\x1b" + b + "1m", "\x1b[" + b + "1m", "\x1b[1" + b + "m", "\x1b[1" + b, "\x1b[" + b, "\x1b[?" + b, "\x1b[?" + b + "m", "\x1b[1m" + b, "\x1b[?1;2" + b} {
			checkRead(t, s)
		}
	}
}

func TestReadOfLongTexts(t *testing.T) {
	for _, head := range []string{"1", ";", ":", "0", "1;", "12:"} {
		for n := 250; n <= 260; n++ {
			long := strings.Repeat(head, n)[:n]
			for _, prefix := range []string{"", "?", ">"} {
				s := "\x1b[" + prefix + long + "m"
				checkRead(t, s)
				if c, _, e := reply.Read(s); (e == api.OK) != (n <= 256) || (c == 'm') != (n <= 256) {
					t.Errorf("%d bytes %q: %q, %v", n, head, c, e)
				}
			}
		}
	}
	if _, l, _ := reply.Read("\x1b[" + strings.Repeat("7;", 128) + "m"); len(l) != 32 {
		t.Errorf("of 129 groups %d are read", len(l))
	}
	for _, s := range []string{strings.Repeat("1", 1<<20) + "m", strings.Repeat("?", 1<<20), strings.Repeat("m", 1<<20)} {
		checkRead(t, s)
		checkRead(t, "\x1b["+s)
	}
}

func TestReadOfAnyTexts(t *testing.T) {
	seed := uint64(3) // what looks like chance is the same in each run
	chance := func(n int) int {
		seed = seed*6364136223846793005 + 1442695040888963407
		return int(seed >> 33 % uint64(n))
	}
	for range 5000 {
		var head []byte
		for range chance(300) {
			head = append(head, "0123456789;:"[chance(12)])
		}
		s := []byte("\x1b[" + []string{"", "<", "=", ">", "?"}[chance(5)] + string(head) + string(rune(0x40+chance(63))))
		checkRead(t, string(s))
		s[chance(len(s))] = byte(chance(256))
		checkRead(t, string(s))
	}
}

func TestWhatIsToldIsRead(t *testing.T) {
	check := func(s string, last byte, numbers ...int) {
		t.Helper()
		var want [][]int
		for _, n := range numbers {
			want = append(want, []int{n})
		}
		c, l, e := reply.Read(s)
		if c != last || !reflect.DeepEqual(l, want) || e != api.OK {
			t.Errorf("Read(%q): %q, %v, %v", s, c, l, e)
		}
	}
	for a := -2; a < 1003; a++ {
		for _, b := range []int{-1, 0, 1, 23, 79, 999, 1000, 1001} {
			check(reply.Cursor(a, b, false), 'R', brought(a)+1, brought(b)+1)
			check(reply.Cursor(b, a, true), 'R', brought(b)+1, brought(a)+1)
			check(reply.Size(a, b), 't', 8, brought(a), brought(b))
			check(reply.Size(b, a), 't', 8, brought(b), brought(a))
		}
	}
	check(reply.Primary(), 'c', 62, 22)
	check(reply.Secondary(), 'c', 1, 10, 0)
	check(reply.Fine(), 'n', 0)
}

func TestNothingIsShared(t *testing.T) {
	_, l, _ := reply.Read("\x1b[1;2:3m")
	l[0][0], l[1] = 9, append(l[1][:1], 8)
	if _, other, _ := reply.Read("\x1b[1;2:3m"); !reflect.DeepEqual(other, [][]int{{1}, {2, 3}}) {
		t.Errorf("Read shares an answer: %v", other)
	}
	_ = append(l[0], 7)
	if l[1][0] != 2 {
		t.Error("two lists of an answer share their memory")
	}
}
