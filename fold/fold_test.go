package fold_test

import (
	"math"
	"slices"
	"testing"

	"marquee/api"
	"marquee/fold"
)

// most is 2 MaxLines, far is 2^40.
const (
	most = 200000
	far  = 1099511627776
)

// row is an item that is a row, gone one that hides some.
func row(n int) api.Item {
	return api.Item{Row: n}
}

func gone(n int, id uint64, hidden int) api.Item {
	return api.Item{Row: n, Id: id, Hidden: hidden}
}

// lays wants what is shown, and that Count is how many items these are.
func lays(t *testing.T, rows int, l []fold.Fold, want ...api.Item) {
	t.Helper()
	if !fold.Right(rows, l) {
		t.Errorf("Right(%d, %v): false", rows, l)
	}
	if got, e := fold.Lay(rows, l...); e != api.OK || !slices.Equal(got, want) {
		t.Errorf("Lay(%d, %v): %v %v, not %v", rows, l, got, e, want)
	}
	if n, e := fold.Count(rows, l...); e != api.OK || n != len(want) {
		t.Errorf("Count(%d, %v): %d %v, not %d", rows, l, n, e, len(want))
	}
}

// refuses wants ErrArg, and nothing else.
func refuses(t *testing.T, rows int, l []fold.Fold) {
	t.Helper()
	if got, e := fold.Lay(rows, l...); e != api.ErrArg || len(got) != 0 {
		t.Errorf("Lay(%d, %v): %v %v", rows, l, got, e)
	}
	if n, e := fold.Count(rows, l...); e != api.ErrArg || n != 0 {
		t.Errorf("Count(%d, %v): %d %v", rows, l, n, e)
	}
}

func TestExample(t *testing.T) {
	lays(t, 5, []fold.Fold{{1, 4, 7}}, row(0), gone(1, 7, 3), row(4))
}

func TestLay(t *testing.T) {
	lays(t, 0, nil)
	lays(t, 1, nil, row(0))
	lays(t, 3, nil, row(0), row(1), row(2))
	lays(t, 1, []fold.Fold{{0, 1, 2}}, gone(0, 2, 1))
	lays(t, 3, []fold.Fold{{0, 3, 2}}, gone(0, 2, 3))
	lays(t, 3, []fold.Fold{{0, 1, 2}}, gone(0, 2, 1), row(1), row(2))
	lays(t, 3, []fold.Fold{{2, 3, 2}}, row(0), row(1), gone(2, 2, 1))
	lays(t, 4, []fold.Fold{{0, 2, 2}, {2, 4, 1}}, gone(0, 2, 2), gone(2, 1, 2))                         // one behind the other
	lays(t, 6, []fold.Fold{{1, 2, 9}, {3, 5, 9}}, row(0), gone(1, 9, 1), row(2), gone(3, 9, 2), row(5)) // of the same number
	lays(t, 3, []fold.Fold{{1, 2, math.MaxUint64}}, row(0), gone(1, math.MaxUint64, 1), row(2))
	lays(t, 3, []fold.Fold{{0, 2, 0}}, api.Item{Row: 0, Hidden: 2}, row(2)) // of the number 0
}

func TestRight(t *testing.T) {
	for _, x := range []struct {
		rows int
		l    []fold.Fold
		ok   bool
	}{
		{0, nil, true}, {-1, nil, true}, {math.MinInt, []fold.Fold{}, true}, {math.MaxInt, nil, true},
		{3, []fold.Fold{{0, 3, 0}}, true},
		{3, []fold.Fold{{0, 4, 0}}, false}, // more than the rows
		{3, []fold.Fold{{3, 4, 0}}, false},
		{3, []fold.Fold{{-1, 2, 0}}, false},
		{3, []fold.Fold{{0, 0, 0}}, false}, // nothing is hidden
		{3, []fold.Fold{{3, 3, 0}}, false},
		{3, []fold.Fold{{2, 1, 0}}, false},
		{3, []fold.Fold{{2, 0, 0}}, false},
		{0, []fold.Fold{{0, 0, 0}}, false},
		{0, []fold.Fold{{0, 1, 0}}, false},
		{-1, []fold.Fold{{0, 1, 0}}, false},
		{-1, []fold.Fold{{-3, -2, 0}}, false},
		{9, []fold.Fold{{1, 3, 5}, {3, 4, 5}}, true},
		{9, []fold.Fold{{1, 3, 5}, {2, 4, 5}}, false}, // ahead of the end of the one before it
		{9, []fold.Fold{{1, 3, 5}, {1, 3, 5}}, false},
		{9, []fold.Fold{{3, 4, 5}, {1, 3, 5}}, false},
		{9, []fold.Fold{{1, 3, 5}, {3, 4, 5}, {3, 4, 5}}, false},
		{9, []fold.Fold{{1, 3, 5}, {3, 4, 5}, {4, 9, 5}}, true},
		{9, []fold.Fold{{1, 3, 5}, {3, 4, 5}, {4, 10, 5}}, false},
		{most + 1, []fold.Fold{{0, most + 1, 5}}, true}, // a document that Lay refuses
		{math.MaxInt, []fold.Fold{{0, math.MaxInt, 5}}, true},
		{math.MaxInt, []fold.Fold{{math.MinInt, math.MaxInt, 5}}, false},
		{math.MaxInt, []fold.Fold{{math.MaxInt, math.MinInt, 5}}, false},
	} {
		if fold.Right(x.rows, x.l) != x.ok {
			t.Errorf("Right(%d, %v): %v", x.rows, x.l, !x.ok)
		}
		if !x.ok || x.rows < 0 || x.rows > most {
			refuses(t, x.rows, x.l)
		}
	}
}

func TestMostRows(t *testing.T) {
	for _, l := range [][]fold.Fold{nil, {{0, 1, 4}}, {{5, most, 4}}, {{5, 9, 4}, {most - 1, most, 5}}} {
		n := most
		for _, f := range l {
			n -= f.To - f.From - 1
		}
		got, e := fold.Lay(most, l...)
		if e != api.OK || len(got) != n {
			t.Errorf("Lay(%d, %v): %d items, %v", most, l, len(got), e)
		}
		if c, e := fold.Count(most, l...); e != api.OK || c != n {
			t.Errorf("Count(%d, %v): %d %v", most, l, c, e)
		}
	}
	for _, rows := range []int{math.MinInt, -most, -1, most + 1, 2 * most, math.MaxInt} {
		refuses(t, rows, nil)
		refuses(t, rows, []fold.Fold{{0, 1, 4}})
		refuses(t, rows, []fold.Fold{{1, 0, 4}})
	}
}

// finds wants the place of an item, or none, below 0.
func finds(t *testing.T, items []api.Item, row, want int) {
	t.Helper()
	if k, ok := fold.Find(items, row); k != max(want, 0) || ok != (want >= 0) {
		t.Errorf("Find(%v, %d): %d %v, not %d", items, row, k, ok, want)
	}
}

func TestFind(t *testing.T) {
	items, _ := fold.Lay(7, fold.Fold{From: 1, To: 4, Id: 7}, fold.Fold{From: 5, To: 6, Id: 8})
	for row, want := range map[int]int{math.MinInt: -1, -1: -1, 0: 0, 1: 1, 2: 1, 3: 1, 4: 2, 5: 3, 6: 4, 7: -1, math.MaxInt: -1} {
		finds(t, items, row, want)
	}
	finds(t, nil, 0, -1)
	finds(t, []api.Item{row(3), row(3), row(2)}, 3, 0) // the least place
	finds(t, []api.Item{row(2), row(3), row(3)}, 3, 1)
	finds(t, []api.Item{row(1), gone(1, 4, 5), row(3)}, 3, 1)
	finds(t, []api.Item{row(1), row(3), gone(1, 4, 5)}, 3, 1)
	finds(t, []api.Item{gone(9, 4, 5), gone(1, 4, 2), gone(1, 4, 3), gone(0, 4, 9)}, 3, 2)
}

func TestFindOfAnyItems(t *testing.T) {
	finds(t, []api.Item{{Row: 0, Hidden: 9}}, 0, 0) // it is that row, whatever it says that it hides
	finds(t, []api.Item{{Row: 0, Hidden: 9}}, 1, -1)
	finds(t, []api.Item{{Row: math.MaxInt, Hidden: math.MaxInt}}, math.MaxInt, 0)
	finds(t, []api.Item{{Row: math.MinInt, Hidden: math.MinInt}}, math.MinInt, 0)
	finds(t, []api.Item{gone(3, 1, 0)}, 3, -1) // it hides none
	finds(t, []api.Item{gone(3, 1, -1)}, 3, -1)
	finds(t, []api.Item{gone(3, 1, -2)}, 2, -1)
	finds(t, []api.Item{gone(3, 1, 1)}, 3, 0)
	finds(t, []api.Item{gone(3, 1, 1)}, 4, -1)
	finds(t, []api.Item{gone(-5, 1, 7)}, -6, -1)
	finds(t, []api.Item{gone(-5, 1, 7)}, -5, 0)
	finds(t, []api.Item{gone(-5, 1, 7)}, 1, 0)
	finds(t, []api.Item{gone(-5, 1, 7)}, 2, -1)
	finds(t, []api.Item{gone(far, 1, far)}, far, 0)
	finds(t, []api.Item{gone(far, 1, far)}, 2*far-1, 0)
	finds(t, []api.Item{gone(far, 1, far)}, 2*far, -1)
	finds(t, []api.Item{gone(far+1, 1, far)}, far+1, -1) // its Row is above 2^40
	finds(t, []api.Item{gone(far, 1, far+1)}, far, -1)   // its Hidden is
	finds(t, []api.Item{gone(0, 1, far+1)}, 0, -1)
	finds(t, []api.Item{gone(0, math.MaxUint64, far)}, far-1, 0)
	finds(t, []api.Item{gone(math.MaxInt, 1, math.MaxInt)}, math.MaxInt, -1)
	finds(t, []api.Item{gone(math.MinInt, 1, 1)}, math.MinInt, 0)
	finds(t, []api.Item{gone(math.MinInt, 1, far)}, math.MaxInt, -1)
	finds(t, []api.Item{gone(math.MinInt, 1, -1)}, 0, -1) // together they are none that an int holds
	finds(t, []api.Item{gone(math.MinInt, 1, math.MinInt)}, math.MinInt, -1)
	finds(t, []api.Item{gone(1, 1, math.MinInt)}, math.MaxInt, -1)
}

func TestWindow(t *testing.T) {
	items := []api.Item{row(0), row(1), gone(2, 6, 5), row(7), row(8)}
	for _, x := range []struct{ top, height, at, n int }{
		{0, 5, 0, 5}, {0, 4, 0, 4}, {1, 4, 1, 4}, {2, 4, 1, 4}, {2, 2, 2, 2}, {3, 2, 3, 2}, {4, 2, 3, 2},
		{4, 1, 4, 1}, {5, 1, 4, 1}, {5, 0, 5, 0}, {6, 0, 5, 0}, {3, 0, 3, 0}, {3, -1, 3, 0}, {9, -1, 5, 0},
		{-1, 2, 0, 2}, {1, 6, 0, 5}, {1, 5, 0, 5}, {-1, 9, 0, 5}, {9, 9, 0, 5},
		{math.MaxInt, 2, 3, 2}, {math.MinInt, 2, 0, 2}, {math.MaxInt, math.MaxInt, 0, 5}, {math.MaxInt, math.MinInt, 5, 0},
		{math.MinInt, math.MaxInt, 0, 5}, {math.MinInt, math.MinInt, 0, 0}, {2, math.MaxInt, 0, 5}, {2, math.MinInt, 2, 0},
	} {
		w, top := fold.Window(items, x.top, x.height)
		if top != x.at || !slices.Equal(w, items[x.at:x.at+x.n]) {
			t.Errorf("Window(%d, %d): %v %d", x.top, x.height, w, top)
		}
		if w, top := fold.Window(nil, x.top, x.height); len(w) != 0 || top != 0 {
			t.Errorf("Window of nothing, %d, %d: %v %d", x.top, x.height, w, top)
		}
	}
}

func TestClean(t *testing.T) {
	for _, x := range []struct {
		rows    int
		l, want []fold.Fold
	}{
		{5, nil, nil},
		{5, []fold.Fold{{1, 4, 7}}, []fold.Fold{{1, 4, 7}}},
		{5, []fold.Fold{{-1, 4, 7}}, []fold.Fold{{0, 4, 7}}},
		{5, []fold.Fold{{1, 6, 7}}, []fold.Fold{{1, 5, 7}}},
		{5, []fold.Fold{{math.MinInt, math.MaxInt, 7}}, []fold.Fold{{0, 5, 7}}},
		{5, []fold.Fold{{-3, 0, 7}, {-3, -1, 7}, {5, 6, 7}, {7, 9, 7}, {2, 2, 7}, {3, 2, 7}, {math.MaxInt, math.MinInt, 7}}, nil}, // each is empty
		{5, []fold.Fold{{-1, 2, 1}, {1, 3, 2}, {4, 9, 3}}, []fold.Fold{{0, 2, 1}, {4, 5, 3}}},
		{5, []fold.Fold{{0, 2, 1}, {2, 3, 2}}, []fold.Fold{{0, 2, 1}, {2, 3, 2}}},
		{5, []fold.Fold{{2, 3, 1}, {0, 2, 2}}, []fold.Fold{{2, 3, 1}}},
		{5, []fold.Fold{{0, 3, 1}, {1, 5, 2}, {3, 4, 3}}, []fold.Fold{{0, 3, 1}, {3, 4, 3}}},    // behind the one that stayed
		{5, []fold.Fold{{0, 1, 1}, {4, 4, 2}, {1, 2, 3}}, []fold.Fold{{0, 1, 1}, {1, 2, 3}}},    // the empty one is nothing
		{5, []fold.Fold{{0, 1, 1}, {0, 1, 2}, {-4, 5, 3}}, []fold.Fold{{0, 1, 1}}},              // each begins at 0
		{5, []fold.Fold{{1, 2, 0}, {3, 4, 0}}, []fold.Fold{{1, 2, 0}, {3, 4, 0}}},               // of the number 0
		{0, []fold.Fold{{0, 1, 1}, {-1, 0, 1}}, nil},                                            // no rows
		{-3, []fold.Fold{{0, 1, 1}, {-9, 5, 1}, {-9, -8, 1}, {-9, -3, 1}}, nil},                 // fewer than none
		{math.MinInt, []fold.Fold{{0, 1, 1}, {math.MinInt, math.MaxInt, 1}}, nil},               // as few as can be
		{math.MaxInt, []fold.Fold{{most, math.MaxInt, 1}}, []fold.Fold{{most, math.MaxInt, 1}}}, // many
	} {
		if got := fold.Clean(x.rows, x.l...); !slices.Equal(got, x.want) {
			t.Errorf("Clean(%d, %v): %v, not %v", x.rows, x.l, got, x.want)
		}
	}
}

func TestWhatIsHandedInStays(t *testing.T) {
	l := []fold.Fold{{-1, 2, 1}, {1, 3, 2}, {4, 9, 3}, {5, 6, 4}}
	keep := slices.Clone(l)
	clean := fold.Clean(5, l[:3]...)
	for i := range clean[:cap(clean)] {
		clean[:cap(clean)][i] = fold.Fold{From: 77, To: 78}
	}
	right := []fold.Fold{{1, 2, 1}, {3, 4, 2}, {7, 7, 7}}
	rightKeep := slices.Clone(right)
	items, _ := fold.Lay(5, right[:2]...)
	fold.Count(5, right[:2]...)
	if !slices.Equal(l, keep) || !slices.Equal(right, rightKeep) {
		t.Error("the folds are others", l, right)
	}
	itemsKeep := slices.Clone(items)
	for height := range 7 {
		for top := range 7 {
			w, _ := fold.Window(items, top, height)
			for i := range w[:cap(w)] {
				w[:cap(w)][i] = row(99)
			}
			fold.Find(items, top)
			if !slices.Equal(items, itemsKeep) {
				t.Fatal("the items are others", items)
			}
		}
	}
}
