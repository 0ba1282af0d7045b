package point_test

import (
	"math"
	"slices"
	"testing"

	"marquee/api"
	"marquee/point"
)

// both are a store, and what the document's words make of it.
type both struct {
	*testing.T
	s *point.Store
	m *toldStore
}

func newBoth(t *testing.T, most int) both {
	t.Helper()
	return both{t, newStore(t, most), &toldStore{most: most}}
}

func (b both) add(at api.Pos) {
	b.s.Add(at)
	b.m.add(at)
}

func (b both) shift(x api.Shift) {
	b.s.Shift(x)
	b.m.shift(x)
}

func (b both) put(l []api.Pos) {
	b.Helper()
	if got, want := b.s.Put(l...), b.m.put(l); got != want {
		b.Fatalf("Put(%v): %v, not %v", l, got, want)
	}
}

// check holds all that a store answers against what is told.
func (b both) check(froms []api.Pos, what ...any) {
	b.Helper()
	if b.s.Len() != len(b.m.points) || b.s.Len() > b.m.most {
		b.Fatalf("%v: Len %d, not %d", what, b.s.Len(), len(b.m.points))
	}
	if got := b.s.Places(); !slices.Equal(got, b.m.points) {
		b.Fatalf("%v: Places %v, not %v", what, got, b.m.points)
	}
	if got := b.s.List(); !slices.Equal(got, b.m.list()) {
		b.Fatalf("%v: List %v, not %v", what, got, b.m.list())
	}
	for _, from := range froms {
		p, ok := b.m.next(from)
		if got, has := b.s.Next(from); got != p || has != ok {
			b.Fatalf("%v: Next(%v) of %v: %v, %v", what, from, b.m.list(), got, has)
		}
		p, ok = b.m.ahead(from)
		if got, has := b.s.Ahead(from); got != p || has != ok {
			b.Fatalf("%v: Ahead(%v) of %v: %v, %v", what, from, b.m.list(), got, has)
		}
	}
}

// TestEachWay sets and shifts points one behind the other, in all ways that there are of some.
func TestEachWay(t *testing.T) {
	const length = 4
	for _, most := range []int{1, 2, 3} {
		way := make([]func(b both), length)
		var ways []func(b both)
		for _, at := range []api.Pos{pos(0, 0), pos(1, 2), pos(1, 3), pos(3, 0), pos(-1, 0)} {
			ways = append(ways, func(b both) { b.add(at) })
		}
		for kind := range 3 {
			for _, x := range []api.Shift{{At: 0, N: 1}, {At: 1, N: 1}, {At: 2, N: 3}, {At: 3, N: 0}} {
				x.Kind = kind
				ways = append(ways, func(b both) { b.shift(x) })
			}
		}
		var grow func(n int)
		grow = func(n int) {
			if n < length {
				for _, w := range ways {
					way[n] = w
					grow(n + 1)
				}
				return
			}
			b := newBoth(t, most)
			for _, do := range way {
				do(b)
			}
			b.check([]api.Pos{pos(1, 2)}, most)
		}
		grow(0)
	}
}

// chance answers numbers that look like chance, the same ones in each run.
func chance() func(n int) int {
	seed := uint64(1)
	return func(n int) int {
		seed = seed*6364136223846793005 + 1442695040888963407
		return int(seed >> 33 % uint64(n))
	}
}

// TestAnyPoints sets, shifts and puts points, near and far, right and wrong.
func TestAnyPoints(t *testing.T) {
	near := []int{-1, 0, 1, 2, 3, 4, 5, 6, 7, 8, 9}
	far := []int{-1, 0, 1, farthest - 2, farthest - 1, farthest, farthest + 1, math.MaxInt, math.MinInt}
	for _, most := range []int{1, 2, 7, 30} {
		pick := chance()
		b := newBoth(t, most)
		for i := range 10000 {
			numbers := near
			if pick(20) == 0 {
				numbers = far
			}
			some := func() int { return numbers[pick(len(numbers))] }
			switch pick(8) {
			case 0:
				b.shift(api.Shift{Kind: pick(5) - 1, At: some(), N: some()})
			case 1:
				l := b.s.Places()
				for i := range l {
					if pick(3) > 0 {
						l[i] = pos(pick(9), pick(9))
					}
				}
				if pick(4) == 0 {
					l = append(l, pos(some(), some()))
				}
				b.put(l)
			default:
				at := pos(some(), some())
				b.add(at)
				if l := b.s.Places(); isRight(at) && (len(l) == 0 || l[len(l)-1] != at) {
					t.Fatalf("%v was set last, and isn't there: %v", at, l)
				}
			}
			b.check([]api.Pos{pos(some(), some()), pos(some(), some())}, most, i)
		}
	}
}
