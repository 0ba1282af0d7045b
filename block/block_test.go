package block_test

import (
	"math"
	"runtime"
	"slices"
	"strconv"
	"strings"
	"testing"

	"marquee/api"
	"marquee/block"
)

func newStore(t *testing.T, most int) *block.Store {
	t.Helper()
	s, e := block.New(most)
	if e != api.OK || s == nil {
		t.Fatalf("New(%d): %v", most, e)
	}
	return s
}

func pos(row, col int) api.Pos {
	return api.Pos{Row: row, Col: col}
}

// comes lets a sign without more come.
func comes(s *block.Store, kind, row, col int) {
	s.Take(api.Sign{Kind: kind}, pos(row, col))
}

// end is behind all places of what is told by hand.
var end = pos(90, 0)

// lists holds the list behind the unmarked block.
func lists(t *testing.T, s *block.Store, want ...api.Block) {
	t.Helper()
	if got := s.List(end); !slices.Equal(got[1:], want) {
		t.Fatalf("List:\n%+v, not\n%+v", got[1:], want)
	}
}

func TestNew(t *testing.T) {
	for _, most := range []int{math.MinInt, -1, 0, 10001, math.MaxInt} {
		if s, e := block.New(most); s != nil || e != api.ErrArg {
			t.Errorf("New(%d): %v, %v", most, s, e)
		}
	}
	for _, most := range []int{1, 2, 10000} {
		s := newStore(t, most)
		if s.Len() != 0 || s.Last() != 0 || len(s.Places()) != 0 {
			t.Errorf("New(%d): Len %d, Last %d, Places %v", most, s.Len(), s.Last(), s.Places())
		}
		lists(t, s)
	}
}

func TestExample(t *testing.T) {
	s := newStore(t, 9)
	comes(s, api.SignPrompt, 0, 0)
	comes(s, api.SignInput, 0, 2)
	comes(s, api.SignOutput, 1, 0)
	s.Take(api.Sign{Kind: api.SignDone, Has: true}, pos(3, 0))
	lists(t, s, api.Block{Id: 1, Phase: api.Ended, Input: pos(0, 2), Output: pos(1, 0), Done: pos(3, 0), Stop: end, Has: true})
	if got := s.Places(); !slices.Equal(got, []api.Pos{pos(0, 0), pos(0, 2), pos(1, 0), pos(3, 0)}) {
		t.Errorf("Places: %v", got)
	}
}

// ahead lets the newest block reach a phase, at rows 1 to 4.
func ahead(t *testing.T, phase int) *block.Store {
	t.Helper()
	s := newStore(t, 9)
	s.Take(api.Sign{Kind: api.SignDir, Text: "/d"}, pos(0, 0))
	for kind := api.SignPrompt; kind <= phase; kind++ {
		comes(s, kind, kind, 0)
	}
	return s
}

// TestEachSignInEachPhase lets each sign come at 7, 1.
func TestEachSignInEachPhase(t *testing.T) {
	at, p1, p2, p3, p4 := pos(7, 1), pos(1, 0), pos(2, 0), pos(3, 0), pos(4, 0)
	was := [][]api.Block{
		nil,
		{{Id: 1, Phase: api.Prompt, Start: p1, Input: end, Output: end, Done: end, Stop: end, Dir: "/d"}},
		{{Id: 1, Phase: api.Input, Start: p1, Input: p2, Output: end, Done: end, Stop: end, Dir: "/d"}},
		{{Id: 1, Phase: api.Output, Start: p1, Input: p2, Output: p3, Done: end, Stop: end, Dir: "/d"}},
		{{Id: 1, Phase: api.Ended, Start: p1, Input: p2, Output: p3, Done: p4, Stop: end, Dir: "/d"}},
	}
	// behind is a new block behind those that were, the last of which stops where it starts.
	behind := func(phase int, x api.Block) []api.Block {
		l := slices.Clone(was[phase])
		x.Id = uint64(len(l) + 1)
		if phase > api.Unmarked {
			b := &l[0]
			for i, p := range []*api.Pos{&b.Input, &b.Output, &b.Done} {
				if phase < i+2 {
					*p = at
				}
			}
			b.Stop = at
		}
		return append(l, x)
	}
	prompt := api.Block{Phase: api.Prompt, Start: at, Input: end, Output: end, Done: end, Stop: end, Dir: "/d"}
	input := api.Block{Phase: api.Input, Start: at, Input: at, Output: end, Done: end, Stop: end, Dir: "/d"}
	output := api.Block{Phase: api.Output, Start: at, Input: at, Output: at, Done: end, Stop: end, Dir: "/d"}
	done := func(in, out api.Pos) []api.Block {
		return []api.Block{{Id: 1, Phase: api.Ended, Start: p1, Input: in, Output: out, Done: at, Stop: end, Dir: "/d", Code: -3, Has: true}}
	}
	with := func(phase int, do func(b *api.Block)) []api.Block {
		l := slices.Clone(was[phase])
		do(&l[0])
		return l
	}
	line := func(b *api.Block) { b.Line = "x" }
	dir := func(b *api.Block) { b.Dir = "x" }
	for kind, want := range map[int][5][]api.Block{
		api.SignPrompt: {behind(0, prompt), behind(1, prompt), behind(2, prompt), behind(3, prompt), behind(4, prompt)},
		api.SignInput: {
			behind(0, input),
			{{Id: 1, Phase: api.Input, Start: p1, Input: at, Output: end, Done: end, Stop: end, Dir: "/d"}},
			behind(2, input), behind(3, input), behind(4, input),
		},
		api.SignOutput: {
			behind(0, output),
			{{Id: 1, Phase: api.Output, Start: p1, Input: at, Output: at, Done: end, Stop: end, Dir: "/d"}},
			{{Id: 1, Phase: api.Output, Start: p1, Input: p2, Output: at, Done: end, Stop: end, Dir: "/d"}},
			behind(3, output), behind(4, output),
		},
		api.SignDone:  {nil, done(at, at), done(p2, at), done(p2, p3), was[4]},
		api.SignLine:  {nil, with(1, line), with(2, line), with(3, line), was[4]},
		api.SignDir:   {nil, with(1, dir), with(2, dir), was[3], was[4]},
		api.SignNone:  {was[0], was[1], was[2], was[3], was[4]},
		api.SignPoint: {was[0], was[1], was[2], was[3], was[4]},
		api.SignTitle: {was[0], was[1], was[2], was[3], was[4]},
		-1:            {was[0], was[1], was[2], was[3], was[4]},
		9:             {was[0], was[1], was[2], was[3], was[4]},
	} {
		for phase := range want {
			s := ahead(t, phase)
			lists(t, s, was[phase]...)
			s.Take(api.Sign{Kind: kind, Code: -3, Has: true, Text: "x"}, at)
			if got := s.List(end)[1:]; !slices.Equal(got, want[phase]) {
				t.Errorf("the sign %d in the phase %d:\n%+v, not\n%+v", kind, phase, got, want[phase])
			}
		}
	}
}

func TestTheCodeIsAsItIsTold(t *testing.T) {
	for _, x := range []api.Sign{
		{Kind: api.SignDone}, {Kind: api.SignDone, Has: true}, {Kind: api.SignDone, Code: 5}, {Kind: api.SignDone, Code: math.MinInt, Has: true},
	} {
		s := ahead(t, api.Output)
		s.Take(x, pos(4, 0))
		if b, ok := s.Find(1, end); !ok || b.Code != x.Code || b.Has != x.Has {
			t.Errorf("%+v: %+v", x, b)
		}
		s.Take(api.Sign{Kind: api.SignDone, Code: 9, Has: true}, pos(5, 0))
		if b, _ := s.Find(1, end); b.Code != x.Code || b.Has != x.Has || b.Done != pos(4, 0) {
			t.Errorf("%+v, told again: %+v", x, b)
		}
	}
}

func TestDirectories(t *testing.T) {
	s := newStore(t, 9)
	say := func(dir string) { s.Take(api.Sign{Kind: api.SignDir, Text: dir}, pos(0, 0)) }
	holds := func(want ...string) {
		t.Helper()
		var got []string
		for _, b := range s.List(end)[1:] {
			got = append(got, b.Dir)
		}
		if !slices.Equal(got, want) {
			t.Fatalf("directories %q, not %q", got, want)
		}
	}
	comes(s, api.SignPrompt, 0, 0) // it is empty at first
	holds("")
	say("/a")
	holds("/a")
	comes(s, api.SignInput, 0, 1)
	say("/b")
	holds("/b")
	comes(s, api.SignOutput, 1, 0)
	say("/c") // where the output has begun it is the next one's
	holds("/b")
	comes(s, api.SignDone, 2, 0)
	say("/d")
	comes(s, api.SignInput, 2, 0)
	holds("/b", "/d")
	comes(s, api.SignOutput, 3, 0)
	say("/e")
	comes(s, api.SignOutput, 4, 0)
	say("")
	holds("/b", "/d", "/e")
	comes(s, api.SignPrompt, 5, 0)
	holds("/b", "/d", "/e", "")
}

func TestLines(t *testing.T) {
	s := ahead(t, api.Prompt)
	for _, text := range []string{"ls", "", "ls -l", "\x00\xff"} {
		s.Take(api.Sign{Kind: api.SignLine, Text: text}, pos(0, 0))
		if b, _ := s.Find(1, end); b.Line != text {
			t.Errorf("%q: %+v", text, b)
		}
	}
	comes(s, api.SignPrompt, 5, 0)
	if b, _ := s.Find(2, end); b.Line != "" {
		t.Errorf("a new one: %+v", b)
	}
}

func TestASignAheadComesAtTheLastPlace(t *testing.T) {
	for _, at := range []api.Pos{pos(0, 0), pos(3, 4), pos(2, 99), pos(3, 5)} {
		s := newStore(t, 9)
		comes(s, api.SignPrompt, 1, 0)
		comes(s, api.SignInput, 3, 5)
		s.Take(api.Sign{Kind: api.SignOutput}, at)
		s.Take(api.Sign{Kind: api.SignDone}, at)
		s.Take(api.Sign{Kind: api.SignPrompt}, at)
		to := pos(3, 5)
		if got := s.Places(); !slices.Equal(got, []api.Pos{pos(1, 0), to, to, to, to}) {
			t.Errorf("at %v: %v", at, got)
		}
	}
}

func TestWrongPlaces(t *testing.T) {
	for _, n := range []int{math.MinInt, -farthest, -1, farthest + 1, math.MaxInt} {
		for _, at := range []api.Pos{pos(n, 0), pos(0, n), pos(n, n), pos(5, n), pos(n, 5)} {
			for kind := range 10 {
				s := ahead(t, api.Prompt)
				was := s.List(end)
				s.Take(api.Sign{Kind: kind, Text: "x"}, at)
				comes(s, api.SignPrompt, 5, 0)
				now := s.List(end)
				if len(now) != 3 || now[1].Phase != was[1].Phase || now[1].Dir != "/d" || now[1].Line != "" || now[2].Dir != "/d" || now[2].Id != 2 {
					t.Errorf("the sign %d at %v: %+v", kind, at, now)
				}
			}
		}
	}
	for _, at := range []api.Pos{pos(farthest, 0), pos(5, farthest), pos(farthest, farthest)} {
		s := ahead(t, api.Prompt)
		s.Take(api.Sign{Kind: api.SignPrompt}, at)
		if got := s.Places(); !slices.Equal(got, []api.Pos{pos(1, 0), at}) {
			t.Errorf("at %v: %v", at, got)
		}
	}
}

func TestMoreThanMayBe(t *testing.T) {
	for _, most := range []int{1, 2, 7, api.MaxBlocks} {
		for _, kind := range []int{api.SignPrompt, api.SignOutput} {
			s := newStore(t, most)
			for i := range most + 5 {
				comes(s, kind, i, 0)
				if n := min(i+1, most); s.Len() != n || s.Last() != uint64(i+1) {
					t.Fatalf("%d of %d at most: Len %d, Last %d", i+1, most, s.Len(), s.Last())
				}
			}
			l := s.List(end)
			if l[0].Stop != pos(5, 0) || l[1].Start != pos(5, 0) || l[1].Id != 6 || l[most].Id != uint64(most+5) {
				t.Errorf("of %d at most: %+v .. %+v", most, l[:2], l[most])
			}
			if _, ok := s.Find(5, end); ok {
				t.Errorf("of %d at most, 5 is still there", most)
			}
			if b, ok := s.Find(6, end); !ok || b.Id != 6 {
				t.Errorf("of %d at most, Find(6): %+v, %v", most, b, ok)
			}
		}
	}
}

// TestASignForTheNewestOneTakesNoRoom: with room for one alone, it goes on and ends.
func TestASignForTheNewestOneTakesNoRoom(t *testing.T) {
	s := newStore(t, 1)
	for kind := api.SignPrompt; kind <= api.SignDone; kind++ {
		comes(s, kind, kind, 0)
		if s.Len() != 1 || s.Last() != 1 {
			t.Fatalf("the sign %d: Len %d, Last %d", kind, s.Len(), s.Last())
		}
	}
	comes(s, api.SignInput, 0, 0) // at the last place of the one that goes
	lists(t, s, api.Block{Id: 2, Phase: api.Input, Start: pos(4, 0), Input: pos(4, 0), Output: end, Done: end, Stop: end})
}

func TestEvict(t *testing.T) {
	for _, x := range []struct {
		n     int
		ids   []uint64
		cut   []bool
		start []api.Pos
	}{
		{1, []uint64{1, 2, 3}, []bool{false, false, false}, []api.Pos{pos(0, 3), pos(2, 0), pos(4, 2)}},
		{2, []uint64{1, 2, 3}, []bool{true, false, false}, []api.Pos{pos(0, 0), pos(1, 0), pos(3, 2)}},
		{3, []uint64{2, 3}, []bool{false, false}, []api.Pos{pos(0, 0), pos(2, 2)}}, // the second one starts just there
		{4, []uint64{2, 3}, []bool{true, false}, []api.Pos{pos(0, 0), pos(1, 2)}},
		{5, []uint64{2, 3}, []bool{true, false}, []api.Pos{pos(0, 0), pos(0, 2)}}, // the last one starts in the row, but behind its beginning
		{6, []uint64{3}, []bool{true}, []api.Pos{pos(0, 0)}},
		{9, []uint64{3}, []bool{true}, []api.Pos{pos(0, 0)}},
		{farthest, []uint64{3}, []bool{true}, []api.Pos{pos(0, 0)}},
	} {
		for _, at := range []int{0, 4, farthest} { // wherever it says that it is
			s := newStore(t, 9)
			comes(s, api.SignPrompt, 1, 3)
			comes(s, api.SignInput, 2, 1)
			comes(s, api.SignPrompt, 3, 0)
			comes(s, api.SignPrompt, 5, 2)
			s.Shift(api.Shift{Kind: api.Evict, At: at, N: x.n})
			var ids []uint64
			var cut []bool
			var start []api.Pos
			for _, b := range s.List(end)[1:] {
				ids, cut, start = append(ids, b.Id), append(cut, b.Cut), append(start, b.Start)
			}
			if !slices.Equal(ids, x.ids) || !slices.Equal(cut, x.cut) || !slices.Equal(start, x.start) || s.Last() != 3 {
				t.Errorf("%d rows go: %v, cut %v, at %v", x.n, ids, cut, start)
			}
		}
	}
}

func TestABlockStaysCut(t *testing.T) {
	s := ahead(t, api.Output)
	s.Shift(api.Shift{Kind: api.Evict, N: 2})
	lists(t, s, api.Block{Id: 1, Phase: api.Output, Output: pos(1, 0), Done: end, Stop: end, Cut: true, Dir: "/d"})
	s.Shift(api.Shift{Kind: api.Insert, N: 1})
	s.Shift(api.Shift{Kind: api.Evict, N: 1})
	comes(s, api.SignDone, 1, 0)
	lists(t, s, api.Block{Id: 1, Phase: api.Ended, Output: pos(1, 0), Done: pos(1, 0), Stop: end, Cut: true, Dir: "/d"})
	comes(s, api.SignPrompt, 1, 0)
	if b, _ := s.Find(2, end); b.Cut {
		t.Errorf("a new one is cut: %+v", b)
	}
}

// TestEmptyBlocksGo: several that start where the rows end that go, go but for the last one.
func TestEmptyBlocksGo(t *testing.T) {
	s := newStore(t, 9)
	for range 3 {
		comes(s, api.SignPrompt, 1, 0)
	}
	comes(s, api.SignPrompt, 2, 0)
	s.Shift(api.Shift{Kind: api.Evict, N: 1}) // none starts in a row below
	if s.Len() != 4 {
		t.Fatalf("%+v", s.List(end))
	}
	s.Shift(api.Shift{Kind: api.Evict, N: 1})
	comes(s, api.SignDir, 0, 0)
	if l := s.List(end); len(l) != 3-1 || l[1].Id != 4 || l[1].Cut {
		t.Errorf("%+v", l)
	}
}

func TestInsertAndDelete(t *testing.T) {
	for _, x := range []struct {
		s    api.Shift
		want []api.Pos
	}{
		{api.Shift{Kind: api.Insert, At: 0, N: 2}, []api.Pos{pos(3, 5), pos(5, 5), pos(6, 5), pos(9, 5)}},
		{api.Shift{Kind: api.Insert, At: 3, N: 2}, []api.Pos{pos(1, 5), pos(5, 5), pos(6, 5), pos(9, 5)}},
		{api.Shift{Kind: api.Insert, At: 4, N: 1}, []api.Pos{pos(1, 5), pos(3, 5), pos(5, 5), pos(8, 5)}},
		{api.Shift{Kind: api.Insert, At: 8, N: 1}, []api.Pos{pos(1, 5), pos(3, 5), pos(4, 5), pos(7, 5)}},
		{api.Shift{Kind: api.Delete, At: 3, N: 1}, []api.Pos{pos(1, 5), pos(3, 0), pos(3, 5), pos(6, 5)}},
		{api.Shift{Kind: api.Delete, At: 2, N: 3}, []api.Pos{pos(1, 5), pos(2, 0), pos(2, 0), pos(4, 5)}},
		{api.Shift{Kind: api.Delete, At: 0, N: 9}, []api.Pos{pos(0, 0), pos(0, 0), pos(0, 0), pos(0, 0)}},
		{api.Shift{Kind: api.Delete, At: 7, N: 1}, []api.Pos{pos(1, 5), pos(3, 5), pos(4, 5), pos(7, 0)}},
	} {
		s := newStore(t, 9)
		comes(s, api.SignPrompt, 1, 5)
		comes(s, api.SignInput, 3, 5)
		comes(s, api.SignPrompt, 4, 5)
		comes(s, api.SignInput, 7, 5)
		s.Shift(x.s)
		if got := s.Places(); !slices.Equal(got, x.want) {
			t.Errorf("%+v: %v, not %v", x.s, got, x.want)
		}
		for _, b := range s.List(end) {
			if b.Cut {
				t.Errorf("%+v cuts %+v", x.s, b)
			}
		}
	}
}

func TestWrongShifts(t *testing.T) {
	s := ahead(t, api.Ended)
	comes(s, api.SignPrompt, 5, 5)
	was := s.List(end)
	for _, x := range []api.Shift{
		{}, {Kind: -1, N: 1}, {Kind: 3, N: 1}, {Kind: api.Insert, At: -1, N: 1}, {Kind: api.Delete, N: -1}, {Kind: api.Delete, At: farthest + 1, N: 1},
		{Kind: api.Evict}, {Kind: api.Evict, N: -1}, {Kind: api.Evict, At: -1, N: 2}, {Kind: api.Evict, N: farthest + 1}, {Kind: api.Evict, N: math.MaxInt}, {Kind: api.Evict, At: farthest + 1, N: 2},
	} {
		s.Shift(x)
		if got := s.List(end); !slices.Equal(got, was) {
			t.Fatalf("%+v: %+v", x, got)
		}
	}
}

func TestPut(t *testing.T) {
	s := ahead(t, api.Input)
	comes(s, api.SignPrompt, 6, 0)
	was := s.List(end)
	for _, l := range [][]api.Pos{
		nil, {pos(1, 0)}, {pos(1, 0), pos(2, 0)}, {pos(1, 0), pos(2, 0), pos(3, 0), pos(4, 0)},
		{pos(2, 0), pos(1, 0), pos(3, 0)}, {pos(1, 0), pos(3, 1), pos(3, 0)}, {pos(3, 0), pos(3, 0), pos(2, 9)},
		{pos(-1, 0), pos(2, 0), pos(3, 0)}, {pos(1, 0), pos(2, -1), pos(3, 0)}, {pos(1, 0), pos(2, 0), pos(farthest+1, 0)}, {pos(1, 0), pos(2, 0), pos(3, farthest+1)}, {pos(1, 0), pos(math.MaxInt, 0), pos(math.MaxInt, 0)},
	} {
		if e := s.Put(l...); e != api.ErrArg || !slices.Equal(s.List(end), was) {
			t.Errorf("Put(%v): %v, %+v", l, e, s.List(end))
		}
	}
	for _, l := range [][]api.Pos{
		{pos(0, 0), pos(0, 0), pos(0, 0)}, {pos(0, 9), pos(2, 1), pos(2, 1)}, {pos(1, 0), pos(farthest, 0), pos(farthest, farthest)},
	} {
		if e := s.Put(l...); e != api.OK || !slices.Equal(s.Places(), l) {
			t.Errorf("Put(%v): %v, %v", l, e, s.Places())
		}
		if got := s.List(end); got[0].Stop != l[0] || got[1].Start != l[0] || got[1].Input != l[1] || got[1].Stop != l[2] || got[1].Done != l[2] || got[2].Start != l[2] || got[2].Id != 2 || got[1].Dir != "/d" {
			t.Errorf("Put(%v): %+v", l, got)
		}
	}
	if e := newStore(t, 1).Put(); e != api.OK {
		t.Errorf("Put of none, where there is none: %v", e)
	}
	if e := newStore(t, 1).Put(pos(0, 0)); e != api.ErrArg {
		t.Errorf("Put of one, where there is none: %v", e)
	}
}

func TestTheEndOfTheList(t *testing.T) {
	s := ahead(t, api.Output)
	for _, x := range []struct{ end, want api.Pos }{
		{pos(9, 9), pos(9, 9)}, {pos(3, 0), pos(3, 0)}, {pos(3, 1), pos(3, 1)},
		{pos(2, 9), pos(3, 0)}, {pos(1, 0), pos(3, 0)}, {pos(0, 0), pos(3, 0)}, {pos(-5, 7), pos(3, 0)},
		{pos(math.MaxInt, -1), pos(math.MaxInt, -1)}, // an end may be any place
	} {
		want := api.Block{Id: 1, Phase: api.Output, Start: pos(1, 0), Input: pos(2, 0), Output: pos(3, 0), Done: x.want, Stop: x.want, Dir: "/d"}
		if got := s.List(x.end); len(got) != 2 || got[1] != want {
			t.Errorf("List(%v): %+v", x.end, got)
		}
		if got, ok := s.Find(1, x.end); !ok || got != want {
			t.Errorf("Find(1, %v): %+v", x.end, got)
		}
	}
}

func TestTheUnmarkedBlock(t *testing.T) {
	s := newStore(t, 3)
	holds := func(end, to api.Pos) {
		t.Helper()
		want := api.Block{Input: to, Output: to, Done: to, Stop: to}
		if got := s.List(end)[0]; got != want {
			t.Errorf("List(%v): %+v", end, got)
		}
		if got, ok := s.Find(0, end); !ok || got != want {
			t.Errorf("Find(0, %v): %+v, %v", end, got, ok)
		}
	}
	for _, p := range []api.Pos{{}, pos(4, 2), pos(-3, -4)} {
		holds(p, p)
	}
	s.Take(api.Sign{Kind: api.SignDir, Text: "/d"}, pos(0, 0))
	s.Take(api.Sign{Kind: api.SignLine, Text: "ls"}, pos(0, 0))
	s.Take(api.Sign{Kind: api.SignDone, Code: 1, Has: true}, pos(3, 0))
	holds(pos(4, 2), pos(4, 2))
	comes(s, api.SignOutput, 2, 1)
	for _, p := range []api.Pos{{}, pos(4, 2)} {
		holds(p, pos(2, 1))
	}
	s.Shift(api.Shift{Kind: api.Evict, N: 4})
	holds(pos(4, 2), pos(0, 0)) // it is told even where nothing is in it
}

func TestNil(t *testing.T) {
	var s *block.Store
	comes(s, api.SignPrompt, 0, 0)
	s.Shift(api.Shift{Kind: api.Evict, N: 1})
	if s.Len() != 0 || s.Last() != 0 || s.Places() != nil || s.Put() != api.ErrArg || s.Put(pos(0, 0)) != api.ErrArg {
		t.Errorf("Len %d, Last %d, Places %v, Put %v", s.Len(), s.Last(), s.Places(), s.Put())
	}
	for _, end := range []api.Pos{{}, pos(4, 2), pos(-1, -1)} {
		want := api.Block{Input: end, Output: end, Done: end, Stop: end}
		if got := s.List(end); !slices.Equal(got, []api.Block{want}) {
			t.Errorf("List(%v): %+v", end, got)
		}
		if got, ok := s.Find(0, end); !ok || got != want {
			t.Errorf("Find(0, %v): %+v, %v", end, got, ok)
		}
		if got, ok := s.Find(1, end); ok || got != (api.Block{}) {
			t.Errorf("Find(1, %v): %+v, %v", end, got, ok)
		}
	}
}

// TestWhatIsHandedInStaysAndWhatIsAnsweredIsNew writes over all that was handed in and answered, its spare room too.
func TestWhatIsHandedInStaysAndWhatIsAnsweredIsNew(t *testing.T) {
	s := ahead(t, api.Input)
	whole := []api.Pos{pos(1, 1), pos(2, 2), pos(3, 3)}
	handed := slices.Clone(whole)
	if e := s.Put(handed[:2]...); e != api.OK {
		t.Fatal("Put", e)
	}
	if !slices.Equal(handed, whole) {
		t.Errorf("Put changed %v: %v", whole, handed)
	}
	was := s.List(end)
	clear(handed)
	places := s.Places()
	clear(places[:cap(places)])
	l := s.List(end)
	clear(l[:cap(l)])
	if got := s.List(end); !slices.Equal(got, was) || !slices.Equal(s.Places(), whole[:2]) {
		t.Errorf("%+v, not %+v", got, was)
	}
	comes(s, api.SignPrompt, 9, 0)
	if was[1].Stop != end {
		t.Errorf("what was answered has changed: %+v", was)
	}
}

// kept is how many bytes are kept in all.
func kept() uint64 {
	var m runtime.MemStats
	runtime.GC()
	runtime.ReadMemStats(&m)
	return m.HeapAlloc
}

// TestNoMoreIsKept lets many blocks come with long lines, far more than may be, or with pieces of them.
func TestNoMoreIsKept(t *testing.T) {
	const come, long = 2000, 1 << 16
	for _, x := range []struct{ most, piece int }{{2, long}, {come, 1}} {
		s := newStore(t, x.most)
		for i := range come {
			text := strings.Repeat(strconv.Itoa(i%10), long)[:x.piece]
			comes(s, api.SignPrompt, i, 0)
			s.Take(api.Sign{Kind: api.SignLine, Text: text}, pos(i, 0))
			s.Take(api.Sign{Kind: api.SignDir, Text: text}, pos(i, 0))
		}
		if n := kept(); n > come/4*long {
			t.Errorf("of %d at most: %d bytes are kept", x.most, n)
		}
		l := s.List(end)
		if b := l[len(l)-1]; len(l) != x.most+1 || b.Id != come || len(b.Line) != x.piece || b.Line[0] != '9' || b.Dir != b.Line {
			t.Errorf("of %d at most: %d blocks, up to %d", x.most, s.Len(), s.Last())
		}
	}
}
