package fold_test

import (
	"math"
	"slices"
	"testing"

	"marquee/api"
	"marquee/fold"
)

// chance answers numbers that look like chance, the same ones in each run.
func chance() func(n int) int {
	seed := uint64(1)
	return func(n int) int {
		seed = seed*6364136223846793005 + 1442695040888963407
		return int(seed >> 33 % uint64(n))
	}
}

// check holds all that is answered of folds against what is told.
func check(t *testing.T, rows int, l []fold.Fold) {
	t.Helper()
	right := toldRight(rows, l)
	if fold.Right(rows, l) != right {
		t.Fatalf("Right(%d, %v): %v", rows, l, !right)
	}
	var want []api.Item
	told := api.ErrArg
	if right && 0 <= rows && rows <= most {
		want, told = toldLay(rows, l), api.OK
	}
	if got, e := fold.Lay(rows, l...); e != told || !slices.Equal(got, want) {
		t.Fatalf("Lay(%d, %v): %v %v, not %v %v", rows, l, got, e, want, told)
	}
	if n, e := fold.Count(rows, l...); e != told || n != len(want) {
		t.Fatalf("Count(%d, %v): %d %v, not %d %v", rows, l, n, e, len(want), told)
	}
	clean := fold.Clean(rows, l...)
	if want := toldClean(rows, l); !slices.Equal(clean, want) {
		t.Fatalf("Clean(%d, %v): %v, not %v", rows, l, clean, want)
	}
	if !fold.Right(rows, clean) {
		t.Fatalf("Clean(%d, %v): %v, which aren't right", rows, l, clean)
	}
	if right && !slices.Equal(clean, l) {
		t.Fatalf("Clean(%d, %v), which are right: %v", rows, l, clean)
	}
}

// checkItems holds what is answered of items against what is told.
func checkItems(t *testing.T, items []api.Item, rows, heights []int) {
	t.Helper()
	for _, row := range rows {
		k, ok := fold.Find(items, row)
		if want, is := toldFind(items, row); k != want || ok != is {
			t.Fatalf("Find(%v, %d): %d %v, not %d %v", items, row, k, ok, want, is)
		}
		for _, height := range heights {
			w, top := fold.Window(items, row, height)
			if want, at := toldWindow(items, row, height); top != at || !slices.Equal(w, want) {
				t.Fatalf("Window(%v, %d, %d): %v %d, not %v %d", items, row, height, w, top, want, at)
			}
		}
	}
}

// TestAllFew holds all pairs of folds, right and wrong, of few rows.
func TestAllFew(t *testing.T) {
	var one []fold.Fold
	for from := -1; from <= 4; from++ {
		for to := -1; to <= 4; to++ {
			one = append(one, fold.Fold{From: from, To: to, Id: uint64(len(one) % 3)})
		}
	}
	for rows := -1; rows <= 3; rows++ {
		check(t, rows, nil)
		for _, a := range one {
			check(t, rows, []fold.Fold{a})
			for _, b := range one {
				check(t, rows, []fold.Fold{a, b})
				for _, c := range one {
					check(t, rows, []fold.Fold{a, b, c})
				}
			}
		}
	}
}

// anyFolds are folds of some rows, most of them right ones.
func anyFolds(n func(int) int, rows int) []fold.Fold {
	var l []fold.Fold
	at := 0
	for range n(8) {
		from := at + n(3)
		to := from + 1 + n(4)
		if n(20) == 0 {
			from -= n(4)
			to -= n(4)
		}
		if to > rows && n(4) > 0 {
			break
		}
		l = append(l, fold.Fold{From: from, To: to, Id: uint64(1 + n(5))})
		at = to
	}
	return l
}

func TestAny(t *testing.T) {
	n := chance()
	all := []int{math.MinInt, math.MinInt + 1, -far, -1, far - 1, far, far + 1, math.MaxInt - 1, math.MaxInt}
	for i := range 30 {
		all = append(all, i)
	}
	heights := []int{math.MinInt, -1, 0, 1, 2, 5, 20, 29, 30, far, math.MaxInt}
	for range 4000 {
		rows := n(30)
		l := anyFolds(n, rows)
		check(t, rows, l)
		l = fold.Clean(rows, l...)
		items, e := fold.Lay(rows, l...)
		if e != api.OK {
			t.Fatalf("Lay(%d, %v): %v", rows, l, e)
		}
		checkItems(t, items, all, heights)
	}
}

// TestAnyItems takes items that nobody laid.
func TestAnyItems(t *testing.T) {
	n := chance()
	edges := []int{math.MinInt, math.MinInt + 1, -far, -2, -1, 0, 1, 2, 3, far - 1, far, far + 1, 2*far - 1, 2 * far, math.MaxInt - 1, math.MaxInt}
	for range 20000 {
		items := make([]api.Item, n(4))
		for i := range items {
			items[i] = api.Item{Row: edges[n(len(edges))], Id: uint64(n(2)), Hidden: edges[n(len(edges))]}
		}
		checkItems(t, items, edges, []int{0, 1, 2})
	}
}

// TestAllRows holds that what is shown, and what is hidden, are all rows, in order, each once.
func TestAllRows(t *testing.T) {
	n := chance()
	for range 4000 {
		rows := n(40)
		items, _ := fold.Lay(rows, fold.Clean(rows, anyFolds(n, rows)...)...)
		next := 0
		for place, x := range items {
			if x.Row != next {
				t.Fatalf("%d rows, %v: the row %d isn't there", rows, items, next)
			}
			next += max(x.Hidden, 1)
			for row := x.Row; row < next; row++ {
				if k, ok := fold.Find(items, row); !ok || k != place {
					t.Fatalf("%v: the row %d is found at %d, not at %d", items, row, k, place)
				}
			}
		}
		if next != rows {
			t.Fatalf("%v: %d rows, not %d", items, next, rows)
		}
		plain, _ := fold.Lay(rows)
		for i, x := range plain {
			if x != row(i) {
				t.Fatalf("without folds: %v", plain)
			}
		}
		if len(plain) != rows {
			t.Fatalf("without folds: %d items of %d rows", len(plain), rows)
		}
	}
}
