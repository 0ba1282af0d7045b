package width_test

import (
	"math"
	"slices"
	"strconv"
	"strings"
	"testing"

	"marquee/api"
	"marquee/width"
)

// The document's sentences, as they stand there.
const (
	marksTold = "300 36f, 483 489, 591 5bd, 610 61a, 64b 65f, 900 902, 93c 93c, 941 948, e31 e31, e34 e3a, 1ab0 1aff, 1dc0 1dff, 200b 200f, 20d0 20ff, 2060 2064, fe00 fe0f, fe20 fe2f, feff feff, e0100 e01ef"
	widesTold = "1100 115f, 231a 231b, 2329 232a, 23e9 23ec, 25fd 25fe, 2614 2615, 2e80 303e, 3041 33ff, 3400 4dbf, 4e00 9fff, a000 a4cf, a960 a97f, ac00 d7a3, f900 faff, fe30 fe6f, ff00 ff60, ffe0 ffe6, 1f300 1f64f, 1f680 1f6ff, 1f900 1f9ff, 20000 2fffd, 30000 3fffd"
)

func rangesOf(t *testing.T, told string) [][2]rune {
	var l [][2]rune
	for _, s := range strings.Split(told, ", ") {
		var x [2]rune
		for i, w := range strings.Fields(s) {
			n, err := strconv.ParseInt(w, 16, 32)
			if err != nil {
				t.Fatal(err)
			}
			x[i] = rune(n)
		}
		l = append(l, x)
	}
	return l
}

// widthsTold is the width of each scalar, and of the numbers between, by the document's words.
func widthsTold(t *testing.T) []int {
	l := make([]int, api.MaxRune+1)
	for r := range l {
		l[r] = 1
		if r < 0x20 || 0x7f <= r && r <= 0x9f || 0xd800 <= r && r <= 0xdfff {
			l[r] = -1
		}
	}
	for w, told := range map[int]string{0: marksTold, 2: widesTold} {
		for _, x := range rangesOf(t, told) {
			for r := x[0]; r <= x[1]; r++ {
				l[r] = w
			}
		}
	}
	return l
}

func TestOf(t *testing.T) {
	for _, x := range []struct {
		r    rune
		want int
	}{
		{'a', 1}, {' ', 1}, {'~', 1}, {0xa0, 1}, {0xad, 1}, {0x2ff, 1}, {0x2500, 1}, {0xe000, 1}, {0xfffd, 1}, {0xffff, 1}, {0x10ffff, 1},
		{0x300, 0}, {0x301, 0}, {0x36f, 0}, {0x370, 1}, {0x93c, 0}, {0x93d, 1}, {0x200d, 0}, {0xfe0f, 0}, {0xfeff, 0}, {0xe0100, 0}, {0xe01f0, 1},
		{0x205f, 1}, {0x2060, 0}, {0x2064, 0}, {0x2065, 1}, {0x20cf, 1}, {0x20d0, 0}, {0x20ff, 0}, {0x2100, 1}, // these two stand the other way round
		{0x10ff, 1}, {0x1100, 2}, {0x115f, 2}, {0x1160, 1}, {0x3042, 2}, {0x303f, 1}, {0x3400, 2}, {0xfe2f, 0}, {0xfe30, 2}, {0x1f600, 2}, {0x1f650, 1},
		{0x2fffd, 2}, {0x2fffe, 1}, {0x3fffd, 2}, {0x3fffe, 1},
		{0, -1}, {7, -1}, {0x1f, -1}, {0x7f, -1}, {0x80, -1}, {0x9f, -1}, {0xd800, -1}, {0xdfff, -1}, {0x110000, -1}, {-1, -1},
		{math.MinInt32, -1}, {math.MaxInt32, -1},
	} {
		if got := width.Of(x.r); got != x.want {
			t.Errorf("Of(%x): %d, not %d", x.r, got, x.want)
		}
	}
}

func TestOfAllScalars(t *testing.T) {
	for r, want := range widthsTold(t) {
		if got := width.Of(rune(r)); got != want {
			t.Errorf("Of(%x): %d, not %d", r, got, want)
		}
	}
}

func TestText(t *testing.T) {
	for _, x := range []struct {
		l    []rune
		want int
	}{
		{nil, 0}, {[]rune{'a', 0x301, 0x3042}, 3}, {[]rune{7, 0x7f, 0x9b, -1, 0xd800, 0x110000}, 0}, {[]rune{0x301, 0x200d}, 0},
		{[]rune{7, 'a', 7, 0x1f600, 0x1b, 'b'}, 4},
	} {
		if got := width.Text(x.l...); got != x.want {
			t.Errorf("Text(%x): %d, not %d", x.l, got, x.want)
		}
	}
}

func TestRanges(t *testing.T) {
	for w, told := range map[int]string{0: marksTold, 2: widesTold} {
		want := rangesOf(t, told)
		got := width.Ranges(w)
		if !slices.Equal(got, want) {
			t.Fatalf("Ranges(%d): %x, not %x", w, got, want)
		}
		for i := range got {
			got[i] = [2]rune{'a', 'z'}
		}
		if width.Of('a') != 1 || !slices.Equal(width.Ranges(w), want) {
			t.Errorf("Ranges(%d) hands its table out", w)
		}
	}
	for _, w := range []int{1, 3, -1, math.MinInt, math.MaxInt} {
		if got := width.Ranges(w); len(got) != 0 {
			t.Errorf("Ranges(%d): %x", w, got)
		}
	}
}

func sameLists(a, b [][]rune) bool {
	return slices.EqualFunc(a, b, func(x, y []rune) bool { return slices.Equal(x, y) })
}

func TestClusters(t *testing.T) {
	for _, x := range []struct {
		l    []rune
		want [][]rune
	}{
		{nil, nil},
		{[]rune{'a', 0x301, 0x3042}, [][]rune{{'a', 0x301}, {0x3042}}}, // the chapter's example
		{[]rune{'a', 'b'}, [][]rune{{'a'}, {'b'}}},
		{[]rune{0x3042, 0x301, 0x302, 'b'}, [][]rune{{0x3042, 0x301, 0x302}, {'b'}}},
		{[]rune{0x301}, [][]rune{{0x301}}},
		{[]rune{0x301, 0x302, 'a', 0x303}, [][]rune{{0x301, 0x302}, {'a', 0x303}}},
		{[]rune{7, 0x301, 0x302, 'a'}, [][]rune{{7}, {0x301, 0x302}, {'a'}}},
		{[]rune{'a', 7, 0x301}, [][]rune{{'a'}, {7}, {0x301}}},
		{[]rune{0x301, 7, 7, 0x302}, [][]rune{{0x301}, {7}, {7}, {0x302}}},
		{[]rune{-1, 0xd800, 0x110000}, [][]rune{{-1}, {0xd800}, {0x110000}}},
	} {
		if got := width.Clusters(x.l...); !sameLists(got, x.want) {
			t.Errorf("Clusters(%x): %x, not %x", x.l, got, x.want)
		}
	}
}

func TestFit(t *testing.T) {
	for _, x := range []struct {
		cols int
		l    []rune
		want int
	}{
		{2, []rune{'a', 0x301, 0x3042}, 2}, // the chapter's example
		{3, []rune{'a', 0x301, 0x3042}, 3},
		{1, []rune{'a', 0x301, 0x3042}, 2},
		{0, []rune{'a', 0x301}, 0},
		{0, []rune{0x301, 7, 0x302, 'a'}, 3},
		{1, []rune{0x3042, 'a'}, 0}, // what comes first must fit first
		{1, []rune{'a', 7, 0x301, 'b'}, 3},
		{2, []rune{0x3042, 0x301, 0x302, 7}, 4},
		{5, nil, 0},
		{-1, []rune{0x301, 7, 'a'}, 0},
		{math.MinInt, []rune{0x301, 7}, 0},
		{math.MaxInt, []rune{0x301, 7, 'a', 0x3042, 0x301}, 5},
	} {
		if got := width.Fit(x.cols, x.l...); got != x.want {
			t.Errorf("Fit(%d, %x): %d, not %d", x.cols, x.l, got, x.want)
		}
	}
}

// eachList hands on all lists of one scalar of each width that have at most n.
func eachList(n int, do func(l []rune)) {
	var grow func(l []rune)
	grow = func(l []rune) {
		do(l)
		if len(l) == n {
			return
		}
		for _, r := range []rune{'a', 0x301, 0x3042, 7} {
			grow(append(slices.Clone(l), r))
		}
	}
	grow(nil)
}

// clusterIsOne tells whether scalars are one cluster, by the document's words.
func clusterIsOne(c []rune) bool {
	for _, r := range c[1:] {
		if width.Of(r) != 0 {
			return false
		}
	}
	return width.Of(c[0]) >= 0 || len(c) == 1
}

func TestClustersHaveAllScalars(t *testing.T) {
	eachList(6, func(l []rune) {
		all := width.Clusters(l...)
		if got := slices.Concat(all...); !slices.Equal(got, l) {
			t.Fatalf("Clusters(%x): %x", l, all)
		}
		for i, c := range all {
			if !clusterIsOne(c) {
				t.Fatalf("Clusters(%x): %x", l, all)
			}
			if i > 0 && width.Of(c[0]) == 0 && width.Of(all[i-1][0]) >= 0 { // it had something to stand on
				t.Fatalf("Clusters(%x): %x", l, all)
			}
		}
	})
}

func TestWhatFits(t *testing.T) {
	eachList(6, func(l []rune) {
		all := width.Clusters(l...)
		for cols := -1; cols <= width.Text(l...)+1; cols++ {
			n, used, next := 0, 0, 0
			for next < len(all) && used+width.Text(all[next]...) <= cols {
				n += len(all[next])
				used += width.Text(all[next]...)
				next++
			}
			if got := width.Fit(cols, l...); got != n {
				t.Fatalf("Fit(%d, %x): %d, not %d", cols, l, got, n)
			}
		}
	})
}

func TestNothingIsSharedOrChanged(t *testing.T) {
	whole := []rune{'a', 0x301, 0x3042, 0x302, 'z'}
	l := whole[:4]
	all := width.Clusters(l...)
	_ = append(all[0], 'x') // must not reach the next cluster
	all[0][0], all[0][1] = 'y', 'y'
	width.Fit(2, l...)
	width.Text(l...)
	if !slices.Equal(whole, []rune{'a', 0x301, 0x3042, 0x302, 'z'}) {
		t.Errorf("what was handed in was changed: %x", whole)
	}
	if !slices.Equal(all[1], []rune{0x3042, 0x302}) {
		t.Errorf("clusters share their memory: %x", all)
	}
}
