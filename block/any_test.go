package block_test

import (
	"math"
	"slices"
	"testing"

	"marquee/api"
	"marquee/block"
)

// both are a store, and what the document's words make of it.
type both struct {
	*testing.T
	s *block.Store
	m *toldStore
}

func newBoth(t *testing.T, most int) both {
	t.Helper()
	return both{t, newStore(t, most), &toldStore{most: most}}
}

func (b both) take(x api.Sign, at api.Pos) {
	b.s.Take(x, at)
	b.m.take(x, at)
}

func (b both) shift(x api.Shift) {
	b.s.Shift(x)
	b.m.shift(x)
}

func (b both) put(l []api.Pos) {
	b.Helper()
	if got, want := b.s.Put(l...), b.m.put(l); got != want {
		b.Fatalf("Put(%v): %v, not %v", l, got, want)
	}
}

// check holds all that a store answers against what is told.
func (b both) check(ends []api.Pos, what ...any) {
	b.Helper()
	if b.s.Len() != len(b.m.blocks) || b.s.Last() != b.m.ever {
		b.Fatalf("%v: Len %d, Last %d, not %d, %d", what, b.s.Len(), b.s.Last(), len(b.m.blocks), b.m.ever)
	}
	if got, want := b.s.Places(), b.m.places(); !slices.Equal(got, want) {
		b.Fatalf("%v: Places %v, not %v", what, got, want)
	}
	for _, end := range ends {
		got, want := b.s.List(end), b.m.list(end)
		if !slices.Equal(got, want) {
			b.Fatalf("%v: List(%v)\n%+v, not\n%+v", what, end, got, want)
		}
		checkFind(b.T, b.s, end, got)
	}
}

// checkFind holds what Find answers, of numbers in the list and around, against that list.
func checkFind(t *testing.T, s *block.Store, end api.Pos, l []api.Block) {
	t.Helper()
	ids := []uint64{0, 1, math.MaxUint64}
	for id := s.Last() - min(s.Last(), uint64(len(l))+3); id < s.Last()+3; id++ {
		ids = append(ids, id)
	}
	for _, id := range ids {
		var want api.Block
		i := slices.IndexFunc(l, func(x api.Block) bool { return x.Id == id })
		if i >= 0 {
			want = l[i]
		}
		if got, ok := s.Find(id, end); got != want || ok != (i >= 0) {
			t.Fatalf("Find(%d, %v): %+v, %v, not %+v", id, end, got, ok, want)
		}
	}
}

// checkOrder holds what follows, as long as no place is too far to be right.
func checkOrder(t *testing.T, s *block.Store, most int, end api.Pos) {
	t.Helper()
	l := s.List(end)
	if len(l) > most+1 || s.Len() != len(l)-1 || s.Last() != 0 && l[len(l)-1].Id != s.Last() {
		t.Fatalf("of %d at most, the last one ever %d: %+v", most, s.Last(), l)
	}
	var at api.Pos
	for i, x := range l {
		if x.Start != at {
			t.Fatalf("a gap ahead of %d, or places twice: %+v", i, l)
		}
		for _, p := range []api.Pos{x.Input, x.Output, x.Done, x.Stop} {
			if isAhead(p, at) {
				t.Fatalf("back in %d: %+v", i, l)
			}
			at = p
		}
		if i > 0 && x.Id <= l[i-1].Id {
			t.Fatalf("numbers: %+v", l)
		}
	}
}

// deed is what is done to a store.
type deed struct {
	sign  api.Sign
	at    api.Pos
	shift api.Shift // of N 0: the sign comes
}

func (b both) do(d deed) {
	if d.shift.N == 0 {
		b.take(d.sign, d.at)
		return
	}
	b.shift(d.shift)
}

// deeds are some of each kind.
func deeds() []deed {
	var l []deed
	for _, at := range []api.Pos{pos(1, 1), pos(3, 0)} {
		for kind := api.SignPrompt; kind <= api.SignDone; kind++ {
			l = append(l, deed{sign: api.Sign{Kind: kind, Code: 7, Has: true}, at: at})
		}
	}
	l = append(l, deed{sign: api.Sign{Kind: api.SignLine, Text: "ls"}}, deed{sign: api.Sign{Kind: api.SignDir, Text: "/d"}})
	for _, n := range []int{1, 2, 3} {
		l = append(l, deed{shift: api.Shift{Kind: api.Evict, At: 9, N: n}})
	}
	return append(l, deed{shift: api.Shift{Kind: api.Insert, At: 2, N: 2}}, deed{shift: api.Shift{Kind: api.Delete, At: 1, N: 2}})
}

// TestEachWay does some deeds one behind the other, in all ways that there are.
func TestEachWay(t *testing.T) {
	all := deeds()
	const length = 4
	for _, most := range []int{1, 2, 3} {
		way := make([]deed, length)
		var grow func(n int)
		grow = func(n int) {
			if n < length {
				for _, d := range all {
					way[n] = d
					grow(n + 1)
				}
				return
			}
			b := newBoth(t, most)
			for _, d := range way {
				b.do(d)
			}
			b.check([]api.Pos{pos(3, 1)}, most, way)
			checkOrder(t, b.s, most, pos(3, 1))
		}
		grow(0)
	}
}

// chance answers numbers that look like chance, the same ones in each run.
func chance() func(n int) int {
	seed := uint64(1)
	return func(n int) int {
		seed = seed*6364136223846793005 + 1442695040888963407
		return int(seed >> 33 % uint64(n))
	}
}

// anySign is a sign, right or wrong.
func anySign(pick func(int) int) api.Sign {
	kinds := []int{api.SignPrompt, api.SignInput, api.SignOutput, api.SignDone, api.SignDone, api.SignLine, api.SignDir, api.SignPoint, api.SignTitle, api.SignNone, -1, 9, math.MaxInt}
	return api.Sign{Kind: kinds[pick(len(kinds))], Code: pick(5) - 2, Has: pick(2) == 0, Text: []string{"", "a", "/b", "\xff"}[pick(4)]}
}

// TestAnySigns lets signs and shifts come at rising places, and a few elsewhere, and puts places.
func TestAnySigns(t *testing.T) {
	for _, most := range []int{1, 2, 5, 40} {
		pick := chance()
		b := newBoth(t, most)
		row := 0
		for i := range 20000 {
			switch pick(12) {
			case 0:
				n := 1 + pick(4)
				b.shift(api.Shift{Kind: api.Evict, At: pick(9), N: n})
				row = max(row-n, 0)
			case 1:
				b.shift(api.Shift{Kind: pick(2), At: pick(row + 4), N: 1 + pick(3)})
			case 2:
				b.shift(api.Shift{Kind: pick(6) - 2, At: pick(5) - 2, N: pick(3) - 1})
			case 3:
				b.take(anySign(pick), pos(pick(row+2)-1, pick(6)-1))
			case 4:
				b.putSome(pick)
			default:
				row += pick(2)
				b.take(anySign(pick), pos(row, pick(4)))
			}
			ends := []api.Pos{pos(row, pick(4)), {}, pos(math.MaxInt, 0)}
			b.check(ends, most, i)
			checkOrder(t, b.s, most, ends[0])
		}
		if b.s.Last() < 1000 {
			t.Errorf("of %d at most: only %d blocks were told", most, b.s.Last())
		}
	}
}

// putSome puts places, mostly right ones.
func (b both) putSome(pick func(int) int) {
	b.Helper()
	l := b.s.Places()
	for i := range l {
		l[i].Col++
	}
	switch n := len(l); {
	case pick(3) > 0 || n == 0:
	case pick(2) == 0:
		l[pick(n)] = pos(pick(9)-1, pick(9)-1)
	case pick(2) == 0:
		l = l[:n-1]
	default:
		l = append(l, l[n-1])
	}
	b.put(l)
}

// TestFarPlaces lets shifts come that move places so far that they are right no more.
func TestFarPlaces(t *testing.T) {
	far := []int{0, 1, 5, farthest - 6, farthest - 1, farthest, farthest + 1, math.MaxInt, -1}
	for _, most := range []int{1, 3} {
		pick := chance()
		for i := range 4000 {
			b := newBoth(t, most)
			some := func() int { return far[pick(len(far))] }
			for j := range 12 {
				if pick(3) == 0 {
					b.shift(api.Shift{Kind: pick(3), At: some(), N: some()})
				} else {
					b.take(anySign(pick), pos(some(), some()))
				}
				b.check([]api.Pos{pos(some(), some())}, most, i, j)
			}
		}
	}
}
