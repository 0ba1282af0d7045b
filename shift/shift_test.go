package shift_test

import (
	"math"
	"slices"
	"testing"

	"marquee/api"
	"marquee/shift"
)

// most is 2^40.
const most = 1099511627776

// kinds are those that there are.
var kinds = []int{api.Insert, api.Delete, api.Evict}

// numbers are at the edges of what may be, and far from it, and whether each may be one of a place.
var numbers = []struct {
	n  int
	ok bool
}{
	{math.MinInt, false}, {-most, false}, {-2, false}, {-1, false},
	{0, true}, {1, true}, {2, true}, {7, true}, {most - 1, true}, {most, true},
	{most + 1, false}, {2 * most, false}, {math.MaxInt - 1, false}, {math.MaxInt, false},
}

func pos(row, col int) api.Pos {
	return api.Pos{Row: row, Col: col}
}

func move(t *testing.T, p api.Pos, s api.Shift, want api.Pos) {
	t.Helper()
	if got := shift.Move(p, s); got != want {
		t.Fatalf("Move(%v, %v): %v, not %v", p, s, got, want)
	}
}

func TestRight(t *testing.T) {
	for _, kind := range []int{math.MinInt, -1, 0, 1, 2, 3, math.MaxInt} {
		for _, at := range numbers {
			for _, n := range numbers {
				s := api.Shift{Kind: kind, At: at.n, N: n.n}
				want := slices.Contains(kinds, kind) && at.ok && n.ok && n.n > 0
				if shift.Right(s) != want {
					t.Errorf("Right(%v): %v", s, !want)
				}
			}
		}
	}
}

func TestExample(t *testing.T) {
	s := api.Shift{Kind: api.Delete, At: 3, N: 2}
	move(t, pos(6, 5), s, pos(4, 5))
	move(t, pos(3, 7), s, pos(3, 0))
	move(t, pos(4, 1), s, pos(3, 0))
}

func TestMove(t *testing.T) {
	for _, x := range []struct {
		p    api.Pos
		s    api.Shift
		want api.Pos
		lost bool
	}{
		{pos(2, 9), api.Shift{Kind: api.Insert, At: 3, N: 2}, pos(2, 9), false},
		{pos(3, 9), api.Shift{Kind: api.Insert, At: 3, N: 2}, pos(5, 9), false},
		{pos(3, 0), api.Shift{Kind: api.Insert, At: 3, N: 2}, pos(5, 0), false},
		{pos(9, 1), api.Shift{Kind: api.Insert, At: 0, N: 1}, pos(10, 1), false},
		{pos(2, 9), api.Shift{Kind: api.Delete, At: 3, N: 2}, pos(2, 9), false},
		{pos(3, 0), api.Shift{Kind: api.Delete, At: 3, N: 2}, pos(3, 0), true},
		{pos(5, 9), api.Shift{Kind: api.Delete, At: 3, N: 2}, pos(3, 9), false},
		{pos(0, 9), api.Shift{Kind: api.Evict, N: 1}, pos(0, 0), true},
		{pos(1, 9), api.Shift{Kind: api.Evict, N: 1}, pos(0, 9), false},
		{pos(4, 9), api.Shift{Kind: api.Evict, At: 3, N: 2}, pos(2, 9), false}, // wherever it says that it is
		{pos(1, 9), api.Shift{Kind: api.Evict, At: 3, N: 2}, pos(0, 0), true},
		{pos(0, 0), api.Shift{Kind: api.Insert, At: 0, N: most}, pos(most, 0), false},
		{pos(most, most), api.Shift{Kind: api.Insert, At: most, N: most}, pos(2*most, most), false},
		{pos(most, 4), api.Shift{Kind: api.Delete, At: most, N: most}, pos(most, 0), true},
		{pos(most, 4), api.Shift{Kind: api.Delete, At: 0, N: most}, pos(0, 4), false},
		{pos(most-1, 4), api.Shift{Kind: api.Delete, At: 0, N: most}, pos(0, 0), true},
		{pos(most, 4), api.Shift{Kind: api.Evict, At: most, N: most}, pos(0, 4), false},
		{pos(most-1, 4), api.Shift{Kind: api.Evict, At: most, N: most}, pos(0, 0), true},
	} {
		move(t, x.p, x.s, x.want)
		if shift.Lost(x.p, x.s) != x.lost {
			t.Errorf("Lost(%v, %v): %v", x.p, x.s, !x.lost)
		}
	}
}

// eachShift goes through all shifts of small numbers.
func eachShift(most int, do func(s api.Shift)) {
	for _, kind := range kinds {
		for at := range most {
			for n := 1; n <= most; n++ {
				do(api.Shift{Kind: kind, At: at, N: n})
			}
		}
	}
}

func TestMoveIsTold(t *testing.T) {
	eachShift(7, func(s api.Shift) {
		for row := range 16 {
			for col := range 3 {
				p := pos(row, col)
				want, lost := toldMove(p, s)
				move(t, p, s, want)
				if shift.Lost(p, s) != lost {
					t.Fatalf("Lost(%v, %v): %v", p, s, !lost)
				}
			}
		}
	})
}

func TestWhatIsNotRightChangesNothing(t *testing.T) {
	for _, kind := range []int{math.MinInt, -1, 0, 1, 2, 3, math.MaxInt} {
		for _, at := range numbers {
			for _, n := range numbers {
				s := api.Shift{Kind: kind, At: at.n, N: n.n}
				for _, row := range numbers {
					for _, col := range numbers {
						p := pos(row.n, col.n)
						if shift.Right(s) && row.ok && col.ok {
							continue
						}
						move(t, p, s, p)
						if shift.Lost(p, s) {
							t.Fatalf("Lost(%v, %v)", p, s)
						}
					}
				}
			}
		}
	}
}

func TestAll(t *testing.T) {
	in := api.Shift{Kind: api.Insert, At: 2, N: 3}
	out := api.Shift{Kind: api.Delete, At: 4, N: 2}
	gone := api.Shift{Kind: api.Evict, N: 1}
	wrong := api.Shift{Kind: api.Insert, N: -4}
	for _, x := range []struct {
		p    api.Pos
		l    []api.Shift
		want api.Pos
	}{
		{pos(3, 5), nil, pos(3, 5)},
		{pos(-3, 5), nil, pos(-3, 5)},
		{pos(2, 5), []api.Shift{in}, pos(5, 5)},
		{pos(2, 5), []api.Shift{in, out}, pos(4, 0)},
		{pos(2, 5), []api.Shift{out, in}, pos(5, 5)}, // one behind the other
		{pos(3, 5), []api.Shift{in, out, gone}, pos(3, 5)},
		{pos(3, 5), []api.Shift{wrong, in, wrong, gone, wrong}, pos(5, 5)},
		{pos(2, 5), []api.Shift{gone, gone, gone, gone}, pos(0, 0)},
		{pos(-1, 5), []api.Shift{in, out, gone}, pos(-1, 5)},
		{pos(most, 5), []api.Shift{in, gone}, pos(most+3, 5)}, // a place that isn't right any more stays
	} {
		was := slices.Clone(x.l)
		if got := shift.All(x.p, x.l...); got != x.want {
			t.Errorf("All(%v, %v): %v, not %v", x.p, x.l, got, x.want)
		}
		if !slices.Equal(x.l, was) {
			t.Errorf("All changed %v: %v", was, x.l)
		}
	}
}

func TestAllIsTold(t *testing.T) {
	eachShift(3, func(first api.Shift) {
		eachShift(3, func(second api.Shift) {
			for row := range 9 {
				p := pos(row, 1)
				want, _ := toldMove(p, first)
				want, _ = toldMove(want, second)
				if got := shift.All(p, first, second); got != want {
					t.Fatalf("All(%v, %v, %v): %v, not %v", p, first, second, got, want)
				}
			}
		})
	})
}

func TestPlacesStayInTheirOrder(t *testing.T) {
	var l []api.Pos
	for row := range 8 {
		for col := range 3 {
			l = append(l, pos(row, col))
		}
	}
	eachShift(4, func(first api.Shift) {
		eachShift(4, func(second api.Shift) {
			for i, p := range l[1:] {
				a, b := shift.All(l[i], first, second), shift.All(p, first, second)
				if shift.Less(b, a) {
					t.Fatalf("%v and %v are %v and %v by %v, %v", l[i], p, a, b, first, second)
				}
			}
		})
	})
}

func TestRowsThatComeInAndGoAgain(t *testing.T) {
	for _, at := range []int{0, 1, 2, 7, most / 2} {
		for _, n := range []int{1, 2, 9, most / 2} {
			in, out := api.Shift{Kind: api.Insert, At: at, N: n}, api.Shift{Kind: api.Delete, At: at, N: n}
			for _, p := range []api.Pos{pos(0, 0), pos(1, 0), pos(1, 4), pos(2, 3), pos(9, 9), pos(most/2, most)} {
				if got := shift.All(p, in, out); got != p {
					t.Errorf("%v, %v make %v of %v", in, out, got, p)
				}
			}
			ahead := api.Shift{Kind: api.Insert, N: n}
			if got := shift.All(pos(5, 5), ahead, api.Shift{Kind: api.Evict, At: at, N: n}); got != pos(5, 5) {
				t.Errorf("%d rows that come in and are evicted make %v", n, got)
			}
		}
	}
}

func TestLessAndLater(t *testing.T) {
	rising := []int{math.MinInt, -1, 0, 1, most, most + 1, math.MaxInt}
	var l []api.Pos
	for _, row := range rising {
		for _, col := range rising {
			l = append(l, pos(row, col))
		}
	}
	for i, a := range l {
		for j, b := range l {
			if shift.Less(a, b) != (i < j) {
				t.Errorf("Less(%v, %v): %v", a, b, i >= j)
			}
			if got := shift.Later(a, b); got != l[max(i, j)] {
				t.Errorf("Later(%v, %v): %v", a, b, got)
			}
		}
	}
}

func TestClamp(t *testing.T) {
	for _, x := range []struct {
		p          api.Pos
		rows, cols int
		want       api.Pos
	}{
		{pos(2, 3), 5, 8, pos(2, 3)},
		{pos(0, 3), 5, 8, pos(0, 3)},
		{pos(0, 0), 1, 0, pos(0, 0)},
		{pos(4, 8), 5, 8, pos(4, 8)}, // the column behind the last one
		{pos(4, 9), 5, 8, pos(4, 8)},
		{pos(4, math.MaxInt), 5, 8, pos(4, 8)},
		{pos(4, -1), 5, 8, pos(4, 0)},
		{pos(4, math.MinInt), 5, 8, pos(4, 0)},
		{pos(5, 0), 5, 8, pos(5, 0)},
		{pos(5, 3), 5, 8, pos(5, 0)},
		{pos(math.MaxInt, 3), 5, 8, pos(5, 0)},
		{pos(-1, 3), 5, 8, pos(0, 0)},
		{pos(math.MinInt, math.MaxInt), 5, 8, pos(0, 0)},
		{pos(0, 3), 0, 8, pos(0, 0)},
		{pos(7, 3), 0, 8, pos(0, 0)},
		{pos(0, 3), -1, 8, pos(0, 0)},
		{pos(7, 3), -1, 8, pos(0, 0)},
		{pos(-1, 3), -5, 8, pos(0, 0)},
		{pos(-5, 3), math.MinInt, 8, pos(0, 0)},
		{pos(2, 3), 5, 0, pos(2, 0)},
		{pos(2, 3), 5, -1, pos(2, 0)},
		{pos(2, -3), 5, -1, pos(2, 0)},
		{pos(2, 3), 5, math.MinInt, pos(2, 0)},
		{pos(2, math.MaxInt), math.MaxInt, math.MaxInt, pos(2, math.MaxInt)},
		{pos(math.MaxInt, 2), math.MaxInt, 8, pos(math.MaxInt, 0)},
		{pos(math.MaxInt-1, 2), math.MaxInt, 8, pos(math.MaxInt-1, 2)},
	} {
		if got := shift.Clamp(x.p, x.rows, x.cols); got != x.want {
			t.Errorf("Clamp(%v, %d, %d): %v, not %v", x.p, x.rows, x.cols, got, x.want)
		}
	}
}

// eachOrder goes through some places in all orders.
func eachOrder(l []api.Pos, do func(l []api.Pos)) {
	var grow func(ahead, rest []api.Pos)
	grow = func(ahead, rest []api.Pos) {
		if len(rest) == 0 {
			do(slices.Clone(ahead))
		}
		for i, p := range rest {
			grow(append(slices.Clone(ahead), p), slices.Delete(slices.Clone(rest), i, i+1))
		}
	}
	grow(nil, l)
}

func TestSort(t *testing.T) {
	for _, want := range [][]api.Pos{
		nil,
		{pos(3, 1)},
		{pos(math.MinInt, 5), pos(-1, 0), pos(0, -4), pos(0, 2), pos(1, 1), pos(math.MaxInt, math.MinInt)},
		{pos(0, 2), pos(1, 0), pos(1, 0), pos(1, 9), pos(2, 1), pos(2, 1)}, // each as often as it was there
		{pos(4, 4), pos(4, 4), pos(4, 4)},
	} {
		eachOrder(want, func(l []api.Pos) {
			if got := shift.Sort(l...); !slices.Equal(got, want) {
				t.Fatalf("Sort(%v): %v, not %v", l, got, want)
			}
		})
	}
}

func TestSortOfMany(t *testing.T) {
	var l []api.Pos
	for i := range 50000 {
		l = append(l, pos(i*7919%1000, i%3))
	}
	got := shift.Sort(l...)
	if len(got) != len(l) || !slices.IsSortedFunc(got, func(a, b api.Pos) int {
		if a.Row != b.Row {
			return a.Row - b.Row
		}
		return a.Col - b.Col
	}) {
		t.Errorf("Sort of %d places", len(l))
	}
}

func TestWhatIsHandedInStaysAndWhatIsAnsweredIsNew(t *testing.T) {
	whole := []api.Pos{pos(3, 1), pos(1, 2), pos(2, 0), pos(9, 9), pos(8, 8)}
	was := slices.Clone(whole)
	got := shift.Sort(whole[:3]...)
	got = got[:cap(got)]
	for i := range got {
		got[i] = pos(-7, -7)
	}
	if !slices.Equal(whole, was) {
		t.Errorf("Sort changed %v: %v", was, whole)
	}
}
