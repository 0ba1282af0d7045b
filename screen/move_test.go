package screen_test

import (
	"math"
	"slices"
	"testing"

	"marquee/api"
)

func TestBackAndReturn(t *testing.T) {
	s := newScreen(t, 2, 3, 0)
	s.Move(1, 1)
	for _, x := range []int{0, 0} {
		s.Back()
		isAt(t, "Back", s, pos(1, x))
	}
	edge(s, 1)
	for _, x := range []int{1, 0, 0} {
		s.Back()
		isAt(t, "Back from the edge", s, pos(1, x))
	}
	edge(s, 1)
	s.Return()
	isAt(t, "Return", s, pos(1, 0))
	s.Return()
	isAt(t, "Return", s, pos(1, 0))
}

// shift is a shift of one row.
func shift(kind, at int) api.Shift {
	return api.Shift{Kind: kind, At: at, N: 1}
}

func TestFeed(t *testing.T) {
	for _, x := range []struct {
		top, bottom int
		from, at    api.Pos
		base        int
		want        []string
		shifts      []api.Shift
	}{
		{0, 3, pos(0, 1), pos(1, 1), 0, []string{"+ab", "+cd", "+ef", "+gh"}, nil},
		{0, 3, pos(2, 0), pos(3, 0), 0, []string{"+ab", "+cd", "+ef", "+gh"}, nil},
		{0, 3, pos(3, 1), pos(3, 1), 1, []string{"+ab", "+cd", "+ef", "+gh", ".."}, []api.Shift{shift(api.Insert, 4)}},
		{0, 2, pos(2, 1), pos(2, 1), 1, []string{"+ab", "+cd", "+ef", "..", "gh"}, []api.Shift{shift(api.Insert, 3)}},
		{1, 2, pos(2, 0), pos(2, 0), 0, []string{"+ab", "ef", "..", "gh"}, []api.Shift{shift(api.Delete, 1), shift(api.Insert, 2)}},
		{1, 2, pos(0, 0), pos(1, 0), 0, []string{"+ab", "+cd", "+ef", "+gh"}, nil},
		{1, 2, pos(1, 0), pos(2, 0), 0, []string{"+ab", "+cd", "+ef", "+gh"}, nil},
		{0, 1, pos(2, 0), pos(3, 0), 0, []string{"+ab", "+cd", "+ef", "+gh"}, nil},
		{0, 1, pos(3, 1), pos(3, 1), 0, []string{"+ab", "+cd", "+ef", "+gh"}, nil}, // there is no row behind it
	} {
		s := write(newScreen(t, 4, 2, 9), "+ab", "+cd", "+ef", "+gh")
		s.Turn([][]int{{44}})
		s.Margins(x.top, x.bottom)
		s.Move(x.from.Row, x.from.Col)
		s.Feed()
		shows(t, "Feed", s, x.at, x.base, x.want...)
		if l := s.Page().Shifts(); !slices.Equal(l, x.shifts) {
			t.Errorf("Feed at %v in %d to %d: shifts %v, not %v", x.from, x.top, x.bottom, l, x.shifts)
		}
	}
}

func TestFeedBack(t *testing.T) {
	for _, x := range []struct {
		top, bottom int
		from, at    api.Pos
		want        []string
		shifts      []api.Shift
	}{
		{0, 3, pos(3, 1), pos(2, 1), []string{"+ab", "+cd", "+ef", "+gh"}, nil},
		{0, 3, pos(1, 0), pos(0, 0), []string{"+ab", "+cd", "+ef", "+gh"}, nil},
		{0, 3, pos(0, 1), pos(0, 1), []string{"..", "ab", "+cd", "+ef"}, []api.Shift{shift(api.Delete, 3), shift(api.Insert, 0)}},
		{1, 2, pos(1, 1), pos(1, 1), []string{"+ab", "..", "cd", "gh"}, []api.Shift{shift(api.Delete, 2), shift(api.Insert, 1)}},
		{1, 2, pos(3, 0), pos(2, 0), []string{"+ab", "+cd", "+ef", "+gh"}, nil},
		{1, 2, pos(2, 0), pos(1, 0), []string{"+ab", "+cd", "+ef", "+gh"}, nil},
		{2, 3, pos(1, 0), pos(0, 0), []string{"+ab", "+cd", "+ef", "+gh"}, nil},
		{2, 3, pos(0, 1), pos(0, 1), []string{"+ab", "+cd", "+ef", "+gh"}, nil}, // there is no row ahead of it
	} {
		s := write(newScreen(t, 4, 2, 9), "+ab", "+cd", "+ef", "+gh")
		s.Turn([][]int{{44}})
		s.Margins(x.top, x.bottom)
		s.Move(x.from.Row, x.from.Col)
		s.FeedBack()
		shows(t, "FeedBack", s, x.at, 0, x.want...)
		if l := s.Page().Shifts(); !slices.Equal(l, x.shifts) {
			t.Errorf("FeedBack at %v in %d to %d: shifts %v, not %v", x.from, x.top, x.bottom, l, x.shifts)
		}
	}
}

func TestFeedsLeaveTheEdge(t *testing.T) {
	for y := range 4 {
		s := newScreen(t, 4, 3, 0)
		s.Margins(1, 2)
		edge(s, y)
		s.Feed()
		if x := s.State().At.Col; x != 2 {
			t.Errorf("Feed at the edge of the row %d: column %d", y, x)
		}
		edge(s, y)
		s.FeedBack()
		if x := s.State().At.Col; x != 2 {
			t.Errorf("FeedBack at the edge of the row %d: column %d", y, x)
		}
	}
}

func TestTab(t *testing.T) {
	for _, x := range []struct{ from, n, to int }{
		{0, 1, 8}, {3, 1, 8}, {8, 1, 13}, {13, 1, 16}, {16, 1, 19}, {19, 1, 19}, {20, 1, 19},
		{0, 2, 13}, {3, 3, 16}, {3, 4, 19}, {0, 5, 19}, {0, math.MaxInt, 19},
		{19, -1, 16}, {16, -1, 13}, {8, -1, 0}, {3, -1, 0}, {0, -1, 0}, {20, -1, 16},
		{19, -2, 13}, {20, -3, 8}, {19, -9, 0}, {19, -math.MaxInt, 0}, {19, math.MinInt, 0},
		{3, 0, 3}, {0, 0, 0}, {20, 0, 20}, // nothing, at the edge, too
	} {
		s := newScreen(t, 2, 20, 0)
		s.Stops().Set(13)
		if s.Move(1, x.from); x.from == 20 {
			edge(s, 1)
		}
		s.Tab(x.n)
		isAt(t, "Tab", s, pos(1, x.to))
	}
	s := newScreen(t, 2, 20, 0)
	s.Stops().None()
	s.Move(0, 9)
	s.Tab(1)
	isAt(t, "Tab without stops", s, pos(0, 19))
	s.Tab(-1)
	isAt(t, "Tab without stops", s, pos(0, 0))
}

func TestMove(t *testing.T) {
	for _, x := range []struct {
		home        bool
		top, bottom int
		to, at      api.Pos
	}{
		{false, 0, 4, pos(0, 0), pos(0, 0)},
		{false, 0, 4, pos(3, 6), pos(3, 6)},
		{false, 0, 4, pos(4, 7), pos(4, 6)},
		{false, 0, 4, pos(5, 8), pos(4, 6)},
		{false, 0, 4, pos(-1, -1), pos(0, 0)},
		{false, 0, 4, pos(math.MinInt, math.MaxInt), pos(0, 6)},
		{false, 0, 4, pos(math.MaxInt, math.MinInt), pos(4, 0)},
		{false, 1, 3, pos(0, 2), pos(0, 2)}, // beyond the region, too
		{false, 1, 3, pos(4, 2), pos(4, 2)},
		{true, 0, 4, pos(3, 6), pos(3, 6)},
		{true, 1, 3, pos(0, 2), pos(1, 2)},
		{true, 1, 3, pos(1, 9), pos(2, 6)},
		{true, 1, 3, pos(2, 0), pos(3, 0)},
		{true, 1, 3, pos(3, 0), pos(3, 0)},
		{true, 1, 3, pos(-1, -1), pos(1, 0)},
		{true, 1, 3, pos(math.MinInt, math.MinInt), pos(1, 0)},
		{true, 1, 3, pos(math.MaxInt, math.MaxInt), pos(3, 6)},
		{true, 2, 4, pos(math.MaxInt-1, 0), pos(4, 0)},
	} {
		s := newScreen(t, 5, 7, 0)
		edge(s, 4)
		s.Margins(x.top, x.bottom)
		s.Set(api.Opts{Home: x.home})
		s.Move(x.to.Row, x.to.Col)
		isAt(t, "Move", s, x.at)
	}
}

func TestGo(t *testing.T) {
	for _, x := range []struct {
		top, bottom int
		from        api.Pos // column 7 is the edge
		dy, dx      int
		at          api.Pos
	}{
		{0, 5, pos(2, 3), 0, 0, pos(2, 3)},
		{0, 5, pos(2, 3), 1, 1, pos(3, 4)},
		{0, 5, pos(2, 3), -1, -1, pos(1, 2)},
		{0, 5, pos(2, 3), 3, 3, pos(5, 6)},
		{0, 5, pos(2, 3), 4, 4, pos(5, 6)},
		{0, 5, pos(2, 3), -2, -3, pos(0, 0)},
		{0, 5, pos(2, 3), -3, -4, pos(0, 0)},
		{0, 5, pos(2, 3), math.MaxInt, math.MinInt, pos(5, 0)},
		{0, 5, pos(2, 3), math.MinInt, math.MaxInt, pos(0, 6)},
		{0, 5, pos(2, 7), 0, 0, pos(2, 6)}, // In
		{0, 5, pos(2, 7), 0, -1, pos(2, 5)},
		{0, 5, pos(2, 7), 1, 1, pos(3, 6)},
		{0, 5, pos(2, 7), -1, math.MaxInt, pos(1, 6)},
		{2, 3, pos(2, 3), 9, 0, pos(3, 3)}, // in the region
		{2, 3, pos(2, 3), 1, 0, pos(3, 3)},
		{2, 3, pos(3, 3), 1, 0, pos(3, 3)},
		{2, 3, pos(3, 3), -9, 0, pos(2, 3)},
		{2, 3, pos(2, 3), -1, 0, pos(2, 3)},
		{2, 3, pos(0, 3), 1, 0, pos(1, 3)}, // ahead of it
		{2, 3, pos(0, 3), 9, 0, pos(3, 3)},
		{2, 3, pos(1, 3), -9, 0, pos(0, 3)},
		{2, 3, pos(4, 3), 9, 0, pos(5, 3)}, // behind it
		{2, 3, pos(5, 3), -1, 0, pos(4, 3)},
		{2, 3, pos(5, 3), -9, 0, pos(2, 3)},
		{2, 3, pos(4, 3), math.MaxInt, 0, pos(5, 3)},
		{2, 3, pos(1, 3), math.MinInt, 0, pos(0, 3)},
		{2, 3, pos(1, 3), math.MaxInt, 0, pos(3, 3)},
		{2, 3, pos(4, 3), math.MinInt, 0, pos(2, 3)},
	} {
		for _, home := range []bool{false, true} { // which doesn't count here
			s := newScreen(t, 6, 7, 0)
			s.Margins(x.top, x.bottom)
			if s.Move(x.from.Row, x.from.Col); x.from.Col == 7 {
				edge(s, x.from.Row)
			}
			s.Set(api.Opts{Home: home})
			s.Go(x.dy, x.dx)
			if s.State().At != x.at {
				t.Errorf("Go(%d, %d) from %v, the region %d to %d: at %v, not %v", x.dy, x.dx, x.from, x.top, x.bottom, s.State().At, x.at)
			}
		}
	}
}

func TestMargins(t *testing.T) {
	for _, x := range []struct {
		top, bottom int
		ok          bool
	}{
		{0, 3, true}, {0, 1, true}, {2, 3, true}, {1, 2, true},
		{0, 0, false}, {3, 3, false}, {2, 1, false}, {3, 0, false},
		{-1, 2, false}, {1, 4, false}, {-1, 4, false}, {4, 5, false}, {-3, -1, false},
		{math.MinInt, 2, false}, {1, math.MaxInt, false}, {math.MinInt, math.MaxInt, false}, {math.MaxInt, math.MinInt, false},
	} {
		for _, home := range []bool{false, true} {
			s := newScreen(t, 4, 5, 0)
			s.Margins(1, 3)
			edge(s, 2)
			s.Set(api.Opts{Home: home})
			want := s.State()
			if x.ok {
				want.At, want.Top, want.Bottom = pos(0, 0), x.top, x.bottom
			}
			if x.ok && home {
				want.At.Row = x.top
			}
			s.Margins(x.top, x.bottom)
			if got := s.State(); got != want {
				t.Errorf("Margins(%d, %d): %+v, not %+v", x.top, x.bottom, got, want)
			}
		}
	}
	s := newScreen(t, 1, 5, 0)
	s.Move(0, 3)
	s.Margins(0, 0)
	isAt(t, "a region of one row", s, pos(0, 3))
}

func TestScroll(t *testing.T) {
	const lots = math.MaxInt
	for _, x := range []struct {
		top, bottom, n, base int
		want                 []string
	}{
		{0, 3, 0, 0, []string{"+ab", "+cd", "+ef", "+gh"}},
		{0, 3, 1, 1, []string{"+ab", "+cd", "+ef", "+gh", ".."}},
		{0, 3, 2, 2, []string{"+ab", "+cd", "+ef", "+gh", "..", ".."}},
		{0, 3, lots, 4, []string{"+ab", "+cd", "+ef", "+gh", "..", "..", "..", ".."}},
		{0, 1, 1, 1, []string{"+ab", "+cd", "..", "ef", "+gh"}},
		{1, 2, 1, 0, []string{"+ab", "ef", "..", "gh"}},
		{1, 2, lots, 0, []string{"+ab", "..", "..", "gh"}},
		{0, 3, -1, 0, []string{"..", "ab", "+cd", "+ef"}},
		{0, 3, -3, 0, []string{"..", "..", "..", "ab"}},
		{0, 3, math.MinInt, 0, []string{"..", "..", "..", ".."}},
		{0, 3, -lots, 0, []string{"..", "..", "..", ".."}},
		{1, 2, -1, 0, []string{"+ab", "..", "cd", "gh"}},
		{1, 2, -2, 0, []string{"+ab", "..", "..", "gh"}},
	} {
		for _, y := range []int{0, 3} { // in the region or not, the cursor stays, at the edge, too
			s := newScreen(t, 4, 2, 9)
			edge(s, y)
			write(s, "+ab", "+cd", "+ef", "+gh")
			s.Turn([][]int{{44}})
			s.Keep()
			s.Margins(x.top, x.bottom)
			s.Restore()
			s.Scroll(x.n)
			shows(t, "Scroll", s, pos(y, 1), x.base, x.want...)
		}
	}
	s := newScreen(t, 3, 2, 0)
	for _, n := range []int{0, 1, -1} {
		edge(s, 1)
		s.Scroll(n)
		isAt(t, "Scroll at the edge", s, pos(1, 2))
	}
}
