package ring_test

import (
	"math"
	"reflect"
	"slices"
	"testing"

	"marquee/api"
	"marquee/ring"
)

func newRing(t *testing.T, room int) *ring.Ring {
	t.Helper()
	r, e := ring.New(room)
	if e != api.OK || r == nil {
		t.Fatalf("New(%d): %v", room, e)
	}
	return r
}

// row is one that is told from others by its number.
func row(n int) api.Row {
	return api.Row{Cells: []api.Cell{{R: rune(n)}, {R: rune(n), More: "\u0301"}}, Cont: n%2 == 1}
}

func rows(l ...int) []api.Row {
	var all []api.Row
	for _, n := range l {
		all = append(all, row(n))
	}
	return all
}

func isSame(a, b []api.Row) bool {
	return slices.EqualFunc(a, b, func(x, y api.Row) bool { return reflect.DeepEqual(x, y) })
}

// check holds all that a ring answers against the rows that it should hold.
func check(t *testing.T, r *ring.Ring, room int, gone uint64, want []api.Row) {
	t.Helper()
	if r.Room() != room || r.Gone() != gone || r.Len() != len(want) || !isSame(r.All(), want) {
		t.Fatalf("room %d, %d gone, %d: %v, not room %d, %d gone, %v", r.Room(), r.Gone(), r.Len(), r.All(), room, gone, want)
	}
	if r.Len() > r.Room() {
		t.Fatalf("%d rows in a room of %d", r.Len(), r.Room())
	}
	for i, x := range want {
		if got, ok := r.At(i); !ok || !reflect.DeepEqual(got, x) {
			t.Fatalf("At(%d): %v, %v, not %v", i, got, ok, x)
		}
	}
	for _, i := range []int{math.MinInt, -1, len(want), len(want) + 1, room, math.MaxInt} {
		if i >= 0 && i < len(want) {
			continue
		}
		if got, ok := r.At(i); ok || !reflect.DeepEqual(got, api.Row{}) {
			t.Fatalf("At(%d) of %d: %v, %v", i, len(want), got, ok)
		}
		if r.Set(i, row('x')) {
			t.Fatalf("Set(%d) of %d", i, len(want))
		}
	}
	if !isSame(r.All(), want) {
		t.Fatal("Set where there is none changed something")
	}
}

func push(t *testing.T, r *ring.Ring, n int, want api.Row, ok bool) {
	t.Helper()
	if got, gone := r.Push(row(n)); gone != ok || !reflect.DeepEqual(got, want) {
		t.Fatalf("Push: %v, %v, not %v, %v", got, gone, want, ok)
	}
}

func pop(t *testing.T, r *ring.Ring, want api.Row, ok bool) {
	t.Helper()
	if got, is := r.Pop(); is != ok || !reflect.DeepEqual(got, want) {
		t.Fatalf("Pop: %v, %v, not %v, %v", got, is, want, ok)
	}
}

func TestNew(t *testing.T) {
	for _, room := range []int{math.MinInt, -1, 100001, math.MaxInt} {
		if r, e := ring.New(room); r != nil || e != api.ErrArg {
			t.Errorf("New(%d): %v, %v", room, r, e)
		}
	}
	for _, room := range []int{0, 1, 2, 100000} {
		check(t, newRing(t, room), room, 0, nil)
	}
}

func TestExample(t *testing.T) {
	r := newRing(t, 2)
	push(t, r, 'a', api.Row{}, false)
	push(t, r, 'b', api.Row{}, false)
	push(t, r, 'c', row('a'), true)
	check(t, r, 2, 1, rows('b', 'c'))
	pop(t, r, row('c'), true)
	check(t, r, 2, 1, rows('b'))
}

func TestPushAndPop(t *testing.T) {
	r := newRing(t, 3)
	pop(t, r, api.Row{}, false)
	for i := range 3 {
		push(t, r, i, api.Row{}, false)
	}
	for i := 3; i < 20; i++ {
		push(t, r, i, row(i-3), true)
		check(t, r, 3, uint64(i-2), rows(i-2, i-1, i))
	}
	pop(t, r, row(19), true)
	pop(t, r, row(18), true)
	check(t, r, 3, 17, rows(17)) // those that were taken out haven't gone at the elder end
	push(t, r, 30, api.Row{}, false)
	push(t, r, 31, api.Row{}, false)
	push(t, r, 32, row(17), true)
	check(t, r, 3, 18, rows(30, 31, 32))
	for i := range 3 {
		pop(t, r, row(32-i), true)
	}
	for range 2 {
		pop(t, r, api.Row{}, false)
		check(t, r, 3, 18, nil)
	}
}

func TestNoRoom(t *testing.T) {
	r := newRing(t, 0)
	for i := range 3 {
		push(t, r, i, row(i), true)
		check(t, r, 0, uint64(i+1), nil)
	}
	pop(t, r, api.Row{}, false)
	if n := r.Clear(); n != 0 {
		t.Errorf("Clear: %d", n)
	}
	if n := r.Fill(rows(1, 2)...); n != 2 {
		t.Errorf("Fill: %d", n)
	}
	check(t, r, 0, 5, nil)
}

func TestMostRoom(t *testing.T) {
	r := newRing(t, api.MaxLines)
	for i := range api.MaxLines {
		push(t, r, i, api.Row{}, false)
	}
	for i := range 2 * api.MaxLines {
		push(t, r, i, row(i%api.MaxLines), true)
	}
	if r.Len() != api.MaxLines || r.Gone() != 2*api.MaxLines {
		t.Errorf("%d held, %d gone", r.Len(), r.Gone())
	}
}

func TestSet(t *testing.T) {
	r := newRing(t, 3)
	for i := range 5 {
		r.Push(row(i))
	}
	for i, n := range []int{10, 11, 12} {
		if !r.Set(i, row(n)) {
			t.Errorf("Set(%d)", i)
		}
	}
	check(t, r, 3, 2, rows(10, 11, 12))
	push(t, r, 13, row(10), true)
	check(t, r, 3, 3, rows(11, 12, 13))
}

func TestFill(t *testing.T) {
	r := newRing(t, 3)
	for _, x := range []struct {
		l, want []int
		n       int
	}{
		{[]int{1, 2}, []int{1, 2}, 0},
		{[]int{3, 4, 5}, []int{3, 4, 5}, 0}, // those whose place is taken haven't gone at the elder end
		{[]int{6, 7, 8, 9}, []int{7, 8, 9}, 1},
		{[]int{1, 2, 3, 4, 5, 6, 7}, []int{5, 6, 7}, 4},
		{nil, nil, 0},
		{[]int{1}, []int{1}, 0},
	} {
		gone := r.Gone()
		if n := r.Fill(rows(x.l...)...); n != x.n {
			t.Errorf("Fill(%v): %d", x.l, n)
		}
		check(t, r, 3, gone+uint64(x.n), rows(x.want...))
	}
	push(t, r, 2, api.Row{}, false)
	push(t, r, 3, api.Row{}, false)
	push(t, r, 4, row(1), true)
	check(t, r, 3, 6, rows(2, 3, 4))
	if n := r.Fill(r.All()...); n != 0 {
		t.Errorf("Fill of its own rows: %d", n)
	}
	check(t, r, 3, 6, rows(2, 3, 4))
}

func TestClear(t *testing.T) {
	r := newRing(t, 3)
	for i := range 5 {
		r.Push(row(i))
	}
	for _, want := range []int{3, 0} {
		if n := r.Clear(); n != want {
			t.Errorf("Clear: %d, not %d", n, want)
		}
		check(t, r, 3, 5, nil)
	}
	push(t, r, 7, api.Row{}, false)
	check(t, r, 3, 5, rows(7))
	if n := r.Clear(); n != 1 || r.Gone() != 6 {
		t.Errorf("Clear: %d, %d gone", n, r.Gone())
	}
}

// told is a ring by the document's words.
type told struct {
	room int
	gone uint64
	l    []api.Row
}

// cut lets all go for which there is no room.
func (m *told) cut() []api.Row {
	n := max(0, len(m.l)-m.room)
	gone := m.l[:n]
	m.l = slices.Clone(m.l[n:])
	m.gone += uint64(n)
	return gone
}

func TestAnyStepsAreTold(t *testing.T) {
	seed := uint64(1) // what looks like chance is the same in each run
	chance := func(n int) int {
		seed = seed*6364136223846793005 + 1442695040888963407
		return int(seed >> 33 % uint64(n))
	}
	for room := range 8 {
		r, m := newRing(t, room), &told{room: room}
		for i := range 1500 {
			anyStep(t, r, m, i, chance)
			check(t, r, m.room, m.gone, m.l)
		}
	}
}

// anyStep does one thing with a ring, and the same with what is told of it.
func anyStep(t *testing.T, r *ring.Ring, m *told, i int, chance func(int) int) {
	t.Helper()
	switch k := chance(40); {
	case k == 0:
		if n := r.Clear(); n != len(m.l) {
			t.Fatalf("Clear: %d", n)
		}
		m.gone += uint64(len(m.l))
		m.l = nil
	case k == 1:
		m.l = nil
		for n := range chance(12) {
			m.l = append(m.l, row(10000+i+n))
		}
		n := r.Fill(m.l...)
		if n != len(m.cut()) {
			t.Fatalf("Fill: %d", n)
		}
	case k < 8:
		if at := chance(10); r.Set(at, row(20000+i)) {
			m.l[at] = row(20000 + i)
		} else if at < len(m.l) {
			t.Fatalf("Set(%d)", at)
		}
	case k < 20 && len(m.l) > 0:
		pop(t, r, m.l[len(m.l)-1], true)
		m.l = m.l[:len(m.l)-1]
	case k < 20:
		pop(t, r, api.Row{}, false)
	default:
		m.l = append(m.l, row(i))
		if gone := m.cut(); len(gone) == 1 {
			push(t, r, i, gone[0], true)
		} else {
			push(t, r, i, api.Row{}, false)
		}
	}
}

func TestNilRing(t *testing.T) {
	var r *ring.Ring
	check(t, r, 0, 0, nil)
	for range 2 {
		push(t, r, 1, api.Row{}, false)
		pop(t, r, api.Row{}, false)
		if r.Fill(rows(1, 2)...) != 0 || r.Fill() != 0 || r.Clear() != 0 {
			t.Error("Fill, Clear")
		}
		check(t, r, 0, 0, nil)
	}
}

// spoil changes a row, and the room behind its cells.
func spoil(x api.Row) {
	for i := range x.Cells[:cap(x.Cells)] {
		x.Cells[:cap(x.Cells)][i] = api.Cell{R: 'X'}
	}
}

func TestWhatIsHandedInIsNotKept(t *testing.T) {
	r := newRing(t, 3)
	l := rows(1, 2, 3, 4)
	r.Push(l[3])
	r.Push(l[3])
	r.Set(1, l[2])
	for _, x := range l {
		spoil(x)
	}
	check(t, r, 3, 0, rows(4, 3))
	l = rows(5, 6, 7, 8)
	r.Fill(l...)
	for i, x := range l {
		spoil(x)
		l[i] = row(9)
	}
	check(t, r, 3, 1, rows(6, 7, 8))
}

func TestWhatIsHandedInIsNotChanged(t *testing.T) {
	whole := append(row(1).Cells, row(2).Cells...) // a row's cells, and spare room behind them
	was := slices.Clone(whole)
	x := api.Row{Cells: whole[:2]}
	list := append(rows(3, 4), rows(5)...)
	r := newRing(t, 1)
	for range 3 {
		r.Push(x)
		r.Set(0, x)
		r.Fill(x, x)
		r.Fill(list[:2]...)
		got, _ := r.At(0)
		spoil(got)
		got, _ = r.Pop()
		spoil(got)
	}
	if !slices.Equal(whole, was) || len(x.Cells) != 2 || !isSame(list, rows(3, 4, 5)) {
		t.Errorf("changed: %v, %v", whole, list)
	}
}

func TestWhatIsAnsweredIsNew(t *testing.T) {
	r := newRing(t, 3)
	for i := range 4 {
		if out, gone := r.Push(row(i)); gone {
			spoil(out)
		}
	}
	got, _ := r.At(1)
	spoil(got)
	all := r.All()
	later := r.All()
	for i, x := range all {
		spoil(x)
		all[i] = row(9)
	}
	check(t, r, 3, 1, rows(1, 2, 3))
	out, _ := r.Pop()
	spoil(out)
	check(t, r, 3, 1, rows(1, 2))
	r.Push(row(5))
	r.Push(row(6))
	r.Set(0, row(7))
	if !isSame(later, rows(1, 2, 3)) {
		t.Errorf("later steps changed an answer: %v", later)
	}
}

func TestRowsOfAnyCells(t *testing.T) {
	r := newRing(t, 2)
	r.Push(api.Row{Cont: true})
	r.Push(api.Row{Cells: []api.Cell{{R: -1, Half: 9}}})
	got, ok := r.At(0)
	if !ok || len(got.Cells) != 0 || !got.Cont {
		t.Errorf("a row without cells: %v", got)
	}
	got, ok = r.At(1)
	if !ok || len(got.Cells) != 1 || got.Cells[0] != (api.Cell{R: -1, Half: 9}) || got.Cont {
		t.Errorf("a row of any cells: %v", got)
	}
}
