package tabs_test

import (
	"math"
	"slices"
	"testing"

	"marquee/api"
	"marquee/tabs"
)

func newStops(t *testing.T, cols int) *tabs.Stops {
	t.Helper()
	s, e := tabs.New(cols)
	if e != api.OK || s == nil {
		t.Fatalf("New(%d): %v", cols, e)
	}
	return s
}

// told is stops by the document's words: a set of columns.
type told struct {
	cols int
	set  map[int]bool
}

func newTold(cols int) *told {
	m := &told{0, map[int]bool{}}
	m.size(cols)
	return m
}

func (m *told) size(cols int) {
	for x := range m.set {
		if x >= cols {
			delete(m.set, x)
		}
	}
	for x := m.cols; x < cols; x++ {
		if x%8 == 0 {
			m.set[x] = true
		}
	}
	m.cols = cols
}

func (m *told) put(x int, stop bool) {
	if x < 0 || x >= m.cols {
		return
	}
	delete(m.set, x)
	if stop {
		m.set[x] = true
	}
}

func (m *told) list() []int {
	var l []int
	for x := range m.set {
		l = append(l, x)
	}
	slices.Sort(l)
	return l
}

func (m *told) next(x, n int) int {
	x = max(0, min(x, m.cols-1))
	for range max(n, 0) {
		to := m.cols - 1
		for stop := range m.set {
			if stop > x {
				to = min(to, stop)
			}
		}
		x = to
	}
	return x
}

func (m *told) ahead(x, n int) int {
	x = max(0, min(x, m.cols-1))
	for range max(n, 0) {
		to := 0
		for stop := range m.set {
			if stop < x {
				to = max(to, stop)
			}
		}
		x = to
	}
	return x
}

// check holds all that stops answer against the document's words.
func check(t *testing.T, s *tabs.Stops, m *told) {
	t.Helper()
	if s.Cols() != m.cols || !slices.Equal(s.List(), m.list()) {
		t.Fatalf("%d columns, %v, not %d, %v", s.Cols(), s.List(), m.cols, m.list())
	}
	for x := -3; x < m.cols+3; x++ {
		if s.Has(x) != m.set[x] {
			t.Fatalf("Has(%d) of %v: %v", x, m.list(), s.Has(x))
		}
		for n := -2; n < 5; n++ {
			if got, want := s.Next(x, n), m.next(x, n); got != want {
				t.Fatalf("Next(%d, %d) of %d columns, %v: %d, not %d", x, n, m.cols, m.list(), got, want)
			}
			if got, want := s.Ahead(x, n), m.ahead(x, n); got != want {
				t.Fatalf("Ahead(%d, %d) of %d columns, %v: %d, not %d", x, n, m.cols, m.list(), got, want)
			}
		}
	}
}

func TestNew(t *testing.T) {
	for _, cols := range []int{math.MinInt, -1, 0, 1, 1001, math.MaxInt} {
		if s, e := tabs.New(cols); s != nil || e != api.ErrArg {
			t.Errorf("New(%d): %v, %v", cols, s, e)
		}
	}
	for _, cols := range []int{2, 7, 8, 9, 16, 17, 20, 80} {
		check(t, newStops(t, cols), newTold(cols))
	}
	if l := newStops(t, 1000).List(); len(l) != 125 || l[124] != 992 {
		t.Errorf("New(1000): %v", l)
	}
}

func TestExamples(t *testing.T) {
	s := newStops(t, 20)
	if l := s.List(); !slices.Equal(l, []int{0, 8, 16}) {
		t.Errorf("List: %v", l)
	}
	for n, want := range []int{3, 8, 16, 19, 19} {
		if got := s.Next(3, n); got != want {
			t.Errorf("Next(3, %d): %d, not %d", n, got, want)
		}
	}
}

func TestNextAndAhead(t *testing.T) {
	s := newStops(t, 20)
	s.Set(19)
	for _, x := range []struct{ x, n, next, ahead int }{
		{0, 1, 8, 0}, {7, 1, 8, 0}, {8, 1, 16, 0}, {9, 1, 16, 8}, {9, 2, 19, 0}, {16, 1, 19, 8}, {17, 1, 19, 16},
		{19, 1, 19, 16}, {19, 2, 19, 8}, {19, 3, 19, 0}, {19, 4, 19, 0}, {1, 1, 8, 0},
		{-5, 0, 0, 0}, {-5, 1, 8, 0}, {25, 0, 19, 19}, {25, 1, 19, 16}, {5, 0, 5, 5}, {5, -1, 5, 5}, {-5, -1, 0, 0}, {25, -1, 19, 19},
		{math.MinInt, 2, 16, 0}, {math.MaxInt, 2, 19, 8}, {5, math.MinInt, 5, 5}, {5, math.MaxInt, 19, 0},
		{math.MinInt, math.MaxInt, 19, 0}, {math.MaxInt, math.MaxInt, 19, 0},
	} {
		if got := s.Next(x.x, x.n); got != x.next {
			t.Errorf("Next(%d, %d): %d, not %d", x.x, x.n, got, x.next)
		}
		if got := s.Ahead(x.x, x.n); got != x.ahead {
			t.Errorf("Ahead(%d, %d): %d, not %d", x.x, x.n, got, x.ahead)
		}
	}
}

func TestSetAndClear(t *testing.T) {
	s, m := newStops(t, 20), newTold(20)
	for _, x := range []int{3, 8, 19, 1, 0, -1, 20, math.MinInt, math.MaxInt} {
		s.Set(x)
		m.put(x, true)
		check(t, s, m)
	}
	for _, x := range []int{8, 4, 19, 0, -1, 20, math.MinInt, math.MaxInt} {
		s.Clear(x)
		m.put(x, false)
		check(t, s, m)
	}
	if l := s.List(); !slices.Equal(l, []int{1, 3, 16}) {
		t.Errorf("List: %v", l)
	}
}

func TestNone(t *testing.T) {
	s := newStops(t, 20)
	s.Set(3)
	s.None()
	if len(s.List()) != 0 || s.Has(0) || s.Has(3) || s.Cols() != 20 {
		t.Errorf("None: %v of %d", s.List(), s.Cols())
	}
	for _, n := range []int{1, 2, math.MaxInt} {
		if s.Next(5, n) != 19 || s.Ahead(5, n) != 0 {
			t.Errorf("without stops, %d times: %d, %d", n, s.Next(5, n), s.Ahead(5, n))
		}
	}
	if s.Next(5, 0) != 5 || s.Ahead(5, 0) != 5 {
		t.Error("without stops, no times")
	}
	s.Set(6)
	if s.Next(5, 1) != 6 || s.Ahead(7, 1) != 6 || s.Ahead(6, 1) != 0 {
		t.Error("a stop that is set behind None")
	}
}

func TestSize(t *testing.T) {
	s, m := newStops(t, 20), newTold(20)
	for _, x := range []int{3, 17, 19} {
		s.Set(x)
		m.put(x, true)
	}
	s.Clear(16)
	m.put(16, false)
	for _, cols := range []int{20, 21, 25, 24, 18, 17, 16, 40, 4, 3, 2, 9, 8, 20} { // what was cut off comes again as multiples of 8 alone
		if e := s.Size(cols); e != api.OK {
			t.Errorf("Size(%d): %v", cols, e)
		}
		m.size(cols)
		check(t, s, m)
	}
	s.None()
	if s.Size(30) != api.OK || !slices.Equal(s.List(), []int{24}) {
		t.Errorf("wider, of no stops: %v", s.List())
	}
	for _, cols := range []int{1, 0, -1, math.MinInt, 1001, math.MaxInt} {
		if e := s.Size(cols); e != api.ErrArg || s.Cols() != 30 || !slices.Equal(s.List(), []int{24}) {
			t.Errorf("Size(%d): %v, %d columns, %v", cols, e, s.Cols(), s.List())
		}
	}
	if s.Size(1000) != api.OK || s.Cols() != 1000 || !s.Has(992) {
		t.Error("Size(1000)")
	}
}

func TestAnyStepsAreTold(t *testing.T) {
	seed := uint64(1) // what looks like chance is the same in each run
	chance := func(n int) int {
		seed = seed*6364136223846793005 + 1442695040888963407
		return int(seed >> 33 % uint64(n))
	}
	s, m := newStops(t, 30), newTold(30)
	for range 2000 {
		x := chance(50) - 5
		switch chance(12) {
		case 0:
			s.None()
			m.set = map[int]bool{}
		case 1, 2:
			if e := s.Size(x); (e == api.OK) != (x >= 2) {
				t.Fatalf("Size(%d): %v", x, e)
			}
			if x >= 2 {
				m.size(x)
			}
		case 3, 4, 5:
			s.Clear(x)
			m.put(x, false)
		default:
			s.Set(x)
			m.put(x, true)
		}
		check(t, s, m)
	}
}

func TestNilStops(t *testing.T) {
	var s *tabs.Stops
	s.Set(1)
	s.Clear(1)
	s.None()
	if s.Cols() != 0 || s.Has(0) || len(s.List()) != 0 {
		t.Error("Cols, Has, List")
	}
	for _, x := range []int{math.MinInt, -1, 0, 1, 5, math.MaxInt} {
		for _, n := range []int{math.MinInt, -1, 0, 1, math.MaxInt} {
			if s.Next(x, n) != 0 || s.Ahead(x, n) != 0 {
				t.Errorf("Next(%d, %d): %d; Ahead: %d", x, n, s.Next(x, n), s.Ahead(x, n))
			}
		}
	}
	for _, cols := range []int{0, 2, 80, 1001} {
		if e := s.Size(cols); e != api.ErrArg {
			t.Errorf("Size(%d): %v", cols, e)
		}
	}
}

func TestNothingIsShared(t *testing.T) {
	s := newStops(t, 20)
	l := s.List()
	l[1] = 5
	if !slices.Equal(s.List(), []int{0, 8, 16}) {
		t.Errorf("List shares an answer: %v", s.List())
	}
	l = s.List()
	s.Clear(8)
	if !slices.Equal(l, []int{0, 8, 16}) {
		t.Errorf("a later step changed an answer: %v", l)
	}
	other := newStops(t, 20)
	if !other.Has(8) {
		t.Error("two of them share their stops")
	}
}
