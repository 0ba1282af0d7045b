package point_test

import (
	"math"
	"slices"
	"testing"

	"marquee/api"
	"marquee/point"
)

func newStore(t *testing.T, most int) *point.Store {
	t.Helper()
	s, e := point.New(most)
	if e != api.OK || s == nil {
		t.Fatalf("New(%d): %v", most, e)
	}
	return s
}

func pos(row, col int) api.Pos {
	return api.Pos{Row: row, Col: col}
}

// with is a store of nine points at most that has some.
func with(t *testing.T, l ...api.Pos) *point.Store {
	t.Helper()
	s := newStore(t, 9)
	for _, p := range l {
		s.Add(p)
	}
	return s
}

// holds holds the points of a store, the eldest first.
func holds(t *testing.T, s *point.Store, want ...api.Pos) {
	t.Helper()
	if got := s.Places(); !slices.Equal(got, want) || s.Len() != len(want) {
		t.Errorf("Places %v, Len %d, not %v", got, s.Len(), want)
	}
}

func TestNew(t *testing.T) {
	for _, most := range []int{math.MinInt, -1, 0, 10001, math.MaxInt} {
		if s, e := point.New(most); s != nil || e != api.ErrArg {
			t.Errorf("New(%d): %v, %v", most, s, e)
		}
	}
	for _, most := range []int{1, 2, 10000} {
		holds(t, newStore(t, most))
	}
}

func TestExample(t *testing.T) {
	s := newStore(t, 2)
	s.Add(pos(5, 0))
	s.Add(pos(3, 0))
	s.Add(pos(4, 0))
	if got := s.List(); !slices.Equal(got, []api.Pos{pos(3, 0), pos(4, 0)}) {
		t.Errorf("List: %v", got)
	}
}

func TestAdd(t *testing.T) {
	s := newStore(t, 3)
	s.Add(pos(5, 1))
	holds(t, s, pos(5, 1))
	s.Add(pos(2, 0))
	s.Add(pos(5, 1)) // as often as it is set
	holds(t, s, pos(5, 1), pos(2, 0), pos(5, 1))
	s.Add(pos(0, 0)) // the eldest one goes, not the first one in the document
	holds(t, s, pos(2, 0), pos(5, 1), pos(0, 0))
	for _, n := range []int{math.MinInt, -1, farthest + 1, math.MaxInt} {
		for _, p := range []api.Pos{pos(n, 0), pos(0, n), pos(n, n)} {
			s.Add(p)
			holds(t, s, pos(2, 0), pos(5, 1), pos(0, 0))
		}
	}
	s.Add(pos(farthest, farthest))
	holds(t, s, pos(5, 1), pos(0, 0), pos(farthest, farthest))
}

func TestMoreThanMayBe(t *testing.T) {
	for _, most := range []int{1, 2, api.MaxMarks} {
		s := newStore(t, most)
		for i := range most + 5 {
			s.Add(pos(i, 0))
			if s.Len() != min(i+1, most) {
				t.Fatalf("%d of %d at most: %d", i+1, most, s.Len())
			}
		}
		if l := s.Places(); l[0] != pos(5, 0) || l[most-1] != pos(most+4, 0) {
			t.Errorf("of %d at most: %v to %v", most, l[0], l[most-1])
		}
	}
}

func TestShift(t *testing.T) {
	for _, x := range []struct {
		s    api.Shift
		want []api.Pos
	}{
		{api.Shift{Kind: api.Insert, At: 0, N: 2}, []api.Pos{pos(6, 5), pos(2, 5), pos(5, 5), pos(4, 0)}},
		{api.Shift{Kind: api.Insert, At: 3, N: 1}, []api.Pos{pos(5, 5), pos(0, 5), pos(4, 5), pos(2, 0)}},
		{api.Shift{Kind: api.Insert, At: 5, N: 1}, []api.Pos{pos(4, 5), pos(0, 5), pos(3, 5), pos(2, 0)}},
		{api.Shift{Kind: api.Delete, At: 0, N: 1}, []api.Pos{pos(3, 5), pos(0, 0), pos(2, 5), pos(1, 0)}}, // none goes
		{api.Shift{Kind: api.Delete, At: 2, N: 2}, []api.Pos{pos(2, 5), pos(0, 5), pos(2, 0), pos(2, 0)}},
		{api.Shift{Kind: api.Delete, At: 0, N: 9}, []api.Pos{pos(0, 0), pos(0, 0), pos(0, 0), pos(0, 0)}},
		{api.Shift{Kind: api.Evict, N: 1}, []api.Pos{pos(3, 5), pos(2, 5), pos(1, 0)}},
		{api.Shift{Kind: api.Evict, At: 9, N: 3}, []api.Pos{pos(1, 5), pos(0, 5)}}, // wherever it says that it is
		{api.Shift{Kind: api.Evict, N: 5}, nil},
		{api.Shift{Kind: api.Evict, N: farthest}, nil},
	} {
		s := with(t, pos(4, 5), pos(0, 5), pos(3, 5), pos(2, 0))
		s.Shift(x.s)
		if got := s.Places(); !slices.Equal(got, x.want) {
			t.Errorf("%+v: %v, not %v", x.s, got, x.want)
		}
	}
}

// TestAgesStay: when some went, those that are left are as old as they were.
func TestAgesStay(t *testing.T) {
	s := newStore(t, 3)
	s.Add(pos(7, 0))
	s.Add(pos(0, 0))
	s.Add(pos(5, 0))
	s.Shift(api.Shift{Kind: api.Evict, N: 1})
	holds(t, s, pos(6, 0), pos(4, 0))
	s.Add(pos(1, 0)) // there is room again
	holds(t, s, pos(6, 0), pos(4, 0), pos(1, 0))
	s.Add(pos(2, 0))
	holds(t, s, pos(4, 0), pos(1, 0), pos(2, 0))
}

func TestWrongShifts(t *testing.T) {
	s := with(t, pos(4, 5), pos(0, 5))
	for _, x := range []api.Shift{
		{}, {Kind: -1, N: 1}, {Kind: 3, N: 1}, {Kind: api.Insert, At: -1, N: 1}, {Kind: api.Delete, N: -1}, {Kind: api.Delete, At: farthest + 1, N: 1},
		{Kind: api.Evict}, {Kind: api.Evict, N: -1}, {Kind: api.Evict, At: -1, N: 2}, {Kind: api.Evict, N: farthest + 1}, {Kind: api.Evict, N: math.MaxInt}, {Kind: api.Evict, At: farthest + 1, N: 2},
	} {
		s.Shift(x)
		holds(t, s, pos(4, 5), pos(0, 5))
	}
}

func TestPut(t *testing.T) {
	s := with(t, pos(4, 5), pos(0, 5))
	for _, l := range [][]api.Pos{
		nil, {pos(4, 5)}, {pos(1, 1), pos(2, 2), pos(3, 3)},
		{pos(-1, 0), pos(2, 2)}, {pos(1, 1), pos(2, -1)}, {pos(1, 1), pos(farthest+1, 0)}, {pos(1, math.MaxInt), pos(2, 2)},
	} {
		if e := s.Put(l...); e != api.ErrArg {
			t.Errorf("Put(%v): %v", l, e)
		}
		holds(t, s, pos(4, 5), pos(0, 5))
	}
	for _, l := range [][]api.Pos{
		{pos(1, 1), pos(2, 2)}, {pos(2, 2), pos(1, 1)}, {pos(3, 3), pos(3, 3)}, {pos(farthest, 0), pos(0, farthest)}, // in any order
	} {
		if e := s.Put(l...); e != api.OK {
			t.Errorf("Put(%v): %v", l, e)
		}
		holds(t, s, l...)
	}
	if e := newStore(t, 1).Put(); e != api.OK {
		t.Errorf("Put of none, where there is none: %v", e)
	}
	if e := newStore(t, 1).Put(pos(0, 0)); e != api.ErrArg {
		t.Errorf("Put of one, where there is none: %v", e)
	}
}

func TestNextAndAhead(t *testing.T) {
	s := with(t, pos(4, 5), pos(0, 5), pos(4, 7), pos(4, 5))
	for _, x := range []struct {
		from, next, ahead api.Pos
		has, had          bool
	}{
		{pos(0, 0), pos(0, 5), pos(0, 0), true, false},
		{pos(math.MinInt, 9), pos(0, 5), pos(0, 0), true, false}, // any place is one to look from
		{pos(0, 5), pos(4, 5), pos(0, 0), true, false},
		{pos(0, 6), pos(4, 5), pos(0, 5), true, true},
		{pos(4, -9), pos(4, 5), pos(0, 5), true, true},
		{pos(4, 5), pos(4, 7), pos(0, 5), true, true},
		{pos(4, 6), pos(4, 7), pos(4, 5), true, true},
		{pos(4, 7), pos(0, 0), pos(4, 5), false, true},
		{pos(4, 8), pos(0, 0), pos(4, 7), false, true},
		{pos(math.MaxInt, 0), pos(0, 0), pos(4, 7), false, true},
	} {
		if got, ok := s.Next(x.from); got != x.next || ok != x.has {
			t.Errorf("Next(%v): %v, %v", x.from, got, ok)
		}
		if got, ok := s.Ahead(x.from); got != x.ahead || ok != x.had {
			t.Errorf("Ahead(%v): %v, %v", x.from, got, ok)
		}
	}
	s = newStore(t, 1)
	if got, ok := s.Next(pos(-1, 0)); ok || got != pos(0, 0) {
		t.Errorf("Next of none: %v, %v", got, ok)
	}
	if got, ok := s.Ahead(pos(9, 9)); ok || got != pos(0, 0) {
		t.Errorf("Ahead of none: %v, %v", got, ok)
	}
}

func TestNil(t *testing.T) {
	var s *point.Store
	s.Add(pos(0, 0))
	s.Shift(api.Shift{Kind: api.Evict, N: 1})
	if s.Len() != 0 || len(s.Places()) != 0 || len(s.List()) != 0 || s.Put() != api.ErrArg || s.Put(pos(0, 0)) != api.ErrArg {
		t.Errorf("Len %d, Places %v, List %v, Put %v", s.Len(), s.Places(), s.List(), s.Put())
	}
	if got, ok := s.Next(pos(-1, 0)); ok || got != pos(0, 0) {
		t.Errorf("Next: %v, %v", got, ok)
	}
	if got, ok := s.Ahead(pos(1, 0)); ok || got != pos(0, 0) {
		t.Errorf("Ahead: %v, %v", got, ok)
	}
}

// TestWhatIsHandedInStaysAndWhatIsAnsweredIsNew writes over all that was handed in and answered, its spare room too.
func TestWhatIsHandedInStaysAndWhatIsAnsweredIsNew(t *testing.T) {
	s := with(t, pos(4, 5), pos(0, 5))
	whole := []api.Pos{pos(8, 1), pos(2, 2), pos(3, 3)}
	handed := slices.Clone(whole)
	if e := s.Put(handed[:2]...); e != api.OK {
		t.Fatal("Put", e)
	}
	s.List()
	s.Shift(api.Shift{Kind: api.Insert, N: 1})
	s.Add(pos(6, 6))
	if !slices.Equal(handed, whole) {
		t.Errorf("%v has become %v", whole, handed)
	}
	clear(handed)
	for _, l := range [][]api.Pos{s.Places(), s.List()} {
		clear(l[:cap(l)])
		holds(t, s, pos(9, 1), pos(3, 2), pos(6, 6))
	}
	was := s.Places()
	s.Shift(api.Shift{Kind: api.Evict, N: 4})
	if !slices.Equal(was, []api.Pos{pos(9, 1), pos(3, 2), pos(6, 6)}) {
		t.Errorf("what was answered has changed: %v", was)
	}
}
