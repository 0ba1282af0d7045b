package jump_test

import (
	"math"
	"slices"
	"testing"

	"marquee/api"
	"marquee/jump"
)

// chance answers numbers that look like chance, the same ones in each run.
func chance() func(n int) int {
	seed := uint64(1)
	return func(n int) int {
		seed = seed*6364136223846793005 + 1442695040888963407
		return int(seed >> 33 % uint64(n))
	}
}

// check holds all that is answered of stops against what is told, from a row.
func check(t *testing.T, l []int, at int) {
	t.Helper()
	for _, x := range []struct {
		what      string
		way, told func(l []int, at int) (int, bool)
	}{
		{"Next", jump.Next, toldNext}, {"Ahead", jump.Ahead, toldAhead}, {"Nearest", jump.Nearest, toldNearest},
	} {
		want, is := x.told(l, at)
		goes(t, x.what, x.way, l, at, want, is)
	}
	for n := -len(l) - 1; n <= len(l)+1; n++ {
		steps(t, l, at, n, toldStep(l, at, n))
	}
	steps(t, l, at, math.MaxInt, toldStep(l, at, len(l)))
	steps(t, l, at, math.MinInt, toldStep(l, at, -len(l)))
	if got, want := jump.Sort(l...), toldSort(l); !slices.Equal(got, want) {
		t.Errorf("Sort(%v): %v, not %v", l, got, want)
	}
	if t.Failed() {
		t.FailNow()
	}
}

// lists are all lists of some rows, up to a length.
func lists(of []int, length int) [][]int {
	all := [][]int{nil}
	for i := 0; i < len(all); i++ {
		if len(all[i]) < length {
			for _, row := range of {
				all = append(all, append(slices.Clip(all[i]), row))
			}
		}
	}
	return all
}

func TestAllShort(t *testing.T) {
	for _, l := range lists([]int{-2, 0, 1, 3}, 5) {
		for at := -3; at <= 4; at++ {
			check(t, l, at)
		}
	}
	edges := []int{math.MinInt, math.MinInt + 1, -1, 0, 1, math.MaxInt - 1, math.MaxInt}
	for _, l := range lists(edges, 3) {
		for _, at := range edges {
			check(t, l, at)
		}
	}
}

func TestAny(t *testing.T) {
	n := chance()
	for range 2000 {
		l := make([]int, n(20))
		for i := range l {
			l[i] = n(40) - 5
		}
		for range 5 {
			check(t, l, n(44)-7)
		}
	}
}

// TestThereAndBack goes some stops on, and as many back.
func TestThereAndBack(t *testing.T) {
	n := chance()
	for range 3000 {
		l := make([]int, 1+n(20))
		for i := range l {
			l[i] = n(60) - 20
		}
		stops := jump.Sort(l...)
		for i, from := range stops {
			for k, to := range stops {
				steps(t, l, from, k-i, to)
				steps(t, l, to, i-k, from)
			}
		}
		if t.Failed() {
			t.FailNow()
		}
	}
}

func TestAnyBlocks(t *testing.T) {
	n := chance()
	for range 5000 {
		l := make([]api.Block, n(10))
		for i := range l {
			at := func() api.Pos { return api.Pos{Row: n(9) - 1, Col: n(5) - 1} }
			l[i] = api.Block{
				Id: uint64(n(4)), Phase: n(7) - 1, Start: at(), Input: at(), Output: at(), Done: at(), Stop: at(),
				Code: n(4) - 1, Has: n(2) == 0, Cut: n(2) == 0, Dir: "/d", Line: "x",
			}
		}
		for kind := -1; kind <= 3; kind++ {
			of(t, l, kind, toldOf(l, kind)...)
		}
		for row := -2; row <= 9; row++ {
			for col := -2; col <= 5; col++ {
				at := api.Pos{Row: row, Col: col}
				got, ok := jump.Block(l, at)
				if want, is := toldBlock(l, at); got != want || ok != is {
					t.Fatalf("Block(%v, %v): %v %v, not %v %v", l, at, got, ok, want, is)
				}
			}
		}
		if t.Failed() {
			t.FailNow()
		}
	}
}
