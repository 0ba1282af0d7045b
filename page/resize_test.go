package page_test

import (
	"math"
	"slices"
	"testing"

	"marquee/api"
)

// size is what a page is made of, and becomes.
type size struct{ rows, cols, base int }

func TestResize(t *testing.T) {
	for _, x := range []struct {
		was  size
		doc  []string
		at   api.Pos
		l    []api.Pos
		is   size
		want []string
		to   api.Pos
		m    []api.Pos
	}{
		// wider, and narrower: lines flow anew, and places with them
		{size{2, 4, 9}, []string{"abcd", "+ef"}, pos(1, 2), []api.Pos{pos(0, 1), pos(1, 0), pos(1, 9)}, size{2, 8, 0}, []string{"abcdef__", "________"}, pos(0, 6), []api.Pos{pos(0, 1), pos(0, 4), pos(0, 8)}},
		{size{2, 4, 9}, []string{"abcd", "+ef"}, pos(1, 2), []api.Pos{pos(0, 1), pos(0, 3), pos(1, 1)}, size{2, 3, 0}, []string{"abc", "+def"}, pos(1, 3), []api.Pos{pos(0, 1), pos(1, 0), pos(1, 2)}},
		{size{2, 4, 9}, []string{"abcd", "ef"}, pos(1, 1), nil, size{2, 2, 1}, []string{"ab", "+cd", "ef"}, pos(1, 1), nil},
		{size{2, 4, 9}, []string{"abcd", "ef"}, pos(0, 4), nil, size{2, 2, 1}, []string{"ab", "+cd", "ef"}, pos(0, 2), nil},
		{size{2, 3, 9}, []string{"\u3042b", "+\u3042|", "+\u3042c"}, pos(1, 2), []api.Pos{pos(1, 2)}, size{3, 4, 0}, []string{"\u3042b|", "+\u3042\u3042", "+c___"}, pos(2, 0), []api.Pos{pos(1, 2)}},
		// the same columns: all is as it is
		{size{2, 3, 9}, []string{"ab_", "+c", "+d"}, pos(1, 1), []api.Pos{pos(0, 3), pos(2, 9), pos(1, -4), pos(-3, 7)}, size{2, 3, 1}, []string{"ab_", "+c__", "+d__"}, pos(1, 1), []api.Pos{pos(0, 3), pos(2, 9), pos(1, -4), pos(-3, 7)}},
		// higher: rows of the history come back, as far as there are any, and zero rows behind
		{size{2, 2, 9}, []string{"a", "b", "+c", "d"}, pos(1, 1), []api.Pos{pos(1, 1), pos(4, 0)}, size{3, 2, 1}, []string{"a_", "b_", "+c_", "d_"}, pos(2, 1), []api.Pos{pos(1, 1), pos(4, 0)}},
		{size{2, 2, 9}, []string{"a", "b", "c"}, pos(0, 2), []api.Pos{pos(2, 1), pos(5, 1), pos(4, 1)}, size{5, 2, 0}, []string{"a_", "b_", "c_", "__", "__"}, pos(1, 2), []api.Pos{pos(2, 1), pos(5, 0), pos(4, 1)}},
		// lower: rows come into the history, as far as the cursor's isn't one of them
		{size{4, 2, 9}, []string{"a", "b", "c", "d"}, pos(3, 0), []api.Pos{pos(3, 1)}, size{2, 2, 2}, []string{"a_", "b_", "c_", "d_"}, pos(1, 0), []api.Pos{pos(3, 1)}},
		{size{4, 2, 9}, []string{"a", "b", "c", "d"}, pos(1, 1), []api.Pos{pos(2, 1), pos(3, 1)}, size{2, 2, 1}, []string{"a_", "b_", "c_"}, pos(0, 1), []api.Pos{pos(2, 1), pos(3, 0)}},
		{size{4, 2, 9}, []string{"a", "b", "c", "d"}, pos(0, 0), []api.Pos{pos(0, 1), pos(1, 1), pos(2, 1)}, size{1, 2, 0}, []string{"a_"}, pos(0, 0), []api.Pos{pos(0, 1), pos(1, 0), pos(1, 0)}},
		// rows behind the cursor's in which nothing was written don't count
		{size{4, 2, 9}, []string{"a", "b"}, pos(1, 1), nil, size{2, 2, 0}, []string{"a_", "b_"}, pos(1, 1), nil},
		{size{4, 2, 9}, []string{"a", "b"}, pos(2, 1), []api.Pos{pos(3, 1)}, size{2, 2, 1}, []string{"a_", "b_", "__"}, pos(1, 1), []api.Pos{pos(3, 0)}},
		{size{4, 2, 9}, []string{"a", "b", "c", "", "d"}, pos(0, 0), nil, size{3, 2, 1}, []string{"a_", "b_", "c_", "__"}, pos(0, 0), nil},
		{size{4, 2, 9}, []string{"a", "b", "_|"}, pos(0, 0), nil, size{2, 2, 0}, []string{"a_", "b_"}, pos(0, 0), nil},
		// the cursor is brought to the screen, behind the history
		{size{2, 2, 9}, []string{"a", "b", "c"}, pos(-5, -5), nil, size{2, 2, 1}, []string{"a_", "b_", "c_"}, pos(0, 0), nil},
		{size{2, 2, 9}, []string{"a", "b", "c"}, pos(5, 5), nil, size{2, 2, 1}, []string{"a_", "b_", "c_"}, pos(1, 2), nil},
		{size{2, 2, 9}, []string{"a", "b", "cd"}, pos(math.MaxInt, math.MaxInt), nil, size{1, 9, 2}, []string{"a________", "b________", "cd_______"}, pos(0, 2), nil},
		{size{2, 2, 9}, []string{"a", "b", "c"}, pos(math.MinInt, math.MinInt), nil, size{2, 9, 1}, []string{"a________", "b________", "c________"}, pos(0, 0), nil},
		// other columns: a place ahead of all, and one behind all
		{size{2, 2, 9}, []string{"a", "b", "c"}, pos(1, 0), []api.Pos{pos(-1, 5), pos(3, 4), pos(math.MaxInt, 1)}, size{2, 3, 1}, []string{"a__", "b__", "c__"}, pos(1, 0), []api.Pos{pos(0, 0), pos(3, 0), pos(3, 0)}},
	} {
		b := document(t, x.was.rows, x.was.cols, x.was.base, x.doc...)
		at, l, e := b.p.Resize(x.is.rows, x.is.cols, x.at, x.l...)
		b.m.resize(x.is.rows, x.is.cols, x.at, x.l)
		if e != api.OK || at != x.to || !slices.Equal(l, x.m) {
			t.Errorf("Resize(%v) of %q at %v, %v: %v, %v, %v, not %v, %v", x.is, x.doc, x.at, x.l, at, l, e, x.to, x.m)
		}
		b.shows(x.is.base, x.want...)
		b.checkShifts("Resize", x.is)
		if b.p.Gone() != 0 {
			t.Errorf("Resize(%v) of %q: %d gone", x.is, x.doc, b.p.Gone())
		}
	}
}

func TestResizeWithLittleRoom(t *testing.T) {
	b := document(t, 3, 4, 1, "abcd", "ef", "ghij", "kl")
	b.cut(2, 2, 1, blue) // a shift that waits
	b.write(2, "kl")
	at, l, e := b.p.Resize(1, 2, pos(2, 1), pos(0, 3), pos(1, 1), pos(3, 1), pos(3, 3))
	if e != api.OK || at != pos(0, 1) || !slices.Equal(l, []api.Pos{pos(1, 1), pos(2, 1), pos(5, 1), pos(5, 2)}) { // as they are ahead of what goes
		t.Errorf("Resize: %v, %v, %v", at, l, e)
	}
	if l := b.p.Shifts(); !slices.Equal(l, []api.Shift{{Kind: api.Evict, N: 4}}) || b.p.Gone() != 4 {
		t.Errorf("shifts %v, %d gone", l, b.p.Gone())
	}
	b.m.resize(1, 2, pos(2, 1), nil)
	b.shows(1, "+ij", "kl")
	b.m.shifts = nil
	b.resize(2, 2, pos(0, 0))
	b.shows(0, "+ij", "kl")
	b.checkShifts("no row goes")
}

func TestResizeLosesColors(t *testing.T) {
	b := document(t, 3, 3, 9, "a")
	for y := range 3 {
		b.erase(y, 1, 3, blue)
	}
	b.resize(3, 3, pos(1, 0))
	b.shows(0, "a..", "_..", "___") // behind the cursor's row, nothing was written
	b.resize(3, 4, pos(1, 0))
	b.shows(0, "a___", "____", "____")
}

func TestResizeToWhatMayNotBe(t *testing.T) {
	b := document(t, 2, 3, 9, "abc", "+d", "e")
	b.down(0, 1, 1, blue)
	for _, x := range wrongSizes {
		if at, l, e := b.p.Resize(x[0], x[1], pos(1, 1), pos(0, 1)); at != (api.Pos{}) || len(l) != 0 || e != api.ErrArg {
			t.Errorf("Resize(%v): %v, %v, %v", x, at, l, e)
		}
		if e := b.p.Crop(x[0], x[1]); e != api.ErrArg {
			t.Errorf("Crop(%v): %v", x, e)
		}
		b.check("no such size", x)
	}
	b.checkShifts("no such size")
	for _, x := range [][2]int{{1, 2}, {1000, 2}, {1, 1000}, {1000, 1000}} {
		b.resize(x[0], x[1], pos(1, 1), pos(0, 1))
		b.check("Resize", x)
	}
	for _, x := range [][2]int{{1, 2}, {1000, 2}, {1, 1000}, {1000, 1000}} {
		b.crop(x[0], x[1])
		b.check("Crop", x)
	}
}

func TestResizeIsTold(t *testing.T) {
	var l []api.Pos
	for row := -1; row < 8; row++ {
		for col := -1; col < 7; col++ {
			l = append(l, pos(row, col))
		}
	}
	l = append(l, pos(math.MinInt, math.MaxInt), pos(math.MaxInt, math.MinInt))
	for _, doc := range [][]string{
		{},
		{"", "", "z"},
		{"abcd", "+efgh", "+ij", "k", "", "", ""},
		{"+a", "", "+__b", "+c", "", "d"},
		{"\u3042\u3042", "+a\u3042|", "+\u3042", "+\u3042b", "\u3042\u3042", "+_\u3042"},
	} {
		for _, room := range []int{0, 1, 3, 99} {
			for rows := range 6 {
				for cols := 1; cols < 8; cols++ {
					for _, at := range []api.Pos{pos(-1, -1), pos(0, 0), pos(0, 4), pos(1, 2), pos(2, 0), pos(3, 1), pos(2, 9)} {
						b := document(t, 3, 4, room, doc...)
						b.resize(rows+1, cols, at, l...)
						b.check(doc, room, rows+1, cols, at)
						b.checkShifts(doc, room, rows+1, cols, at)
					}
				}
			}
		}
	}
}

func TestCrop(t *testing.T) {
	for _, x := range []struct {
		was  size
		doc  []string
		is   size
		want []string
	}{
		{size{2, 3, 9}, []string{"abc", "+def", "+ghi"}, size{2, 3, 0}, []string{"def", "ghi"}}, // the history goes, none goes on
		{size{2, 3, 9}, []string{"+abc", "+de"}, size{3, 5, 0}, []string{"abc__", "de___", "_____"}},
		{size{3, 3, 9}, []string{"abc", "def", "ghi"}, size{1, 2, 0}, []string{"ab"}},
		{size{2, 4, 9}, []string{"a\u3042b", "\u3042\u3042"}, size{2, 2, 0}, []string{"a_", "\u3042"}}, // half of a cell goes whole
		{size{2, 4, 9}, []string{"abc|", "de_|"}, size{2, 4, 0}, []string{"abc|", "de_|"}},
		{size{2, 4, 9}, []string{"abc|", "de_|"}, size{2, 3, 0}, []string{"abc", "de_"}},
		{size{2, 4, 9}, []string{"abc|", "de_|"}, size{2, 5, 0}, []string{"abc__", "de___"}}, // a Pad is the last cell
	} {
		b := document(t, x.was.rows, x.was.cols, x.was.base, x.doc...)
		gone := uint64(b.p.Base())
		b.crop(x.is.rows, x.is.cols)
		b.shows(0, x.want...)
		b.checkShifts("Crop", x.is)
		if b.p.Gone() != gone {
			t.Errorf("Crop(%v) of %q: %d gone", x.is, x.doc, b.p.Gone())
		}
	}
	b := document(t, 2, 3, 9, "abc", "def", "ghi")
	b.put(1, 0, 'x', bold)
	b.erase(0, 1, 2, blue)
	b.up(1, 1, 1, blue) // a shift that waits
	b.crop(3, 4)
	b.shows(0, "d.f_", "..._", "____")
	b.checkShifts("Crop")
	b.up(0, 2, 1, blue) // the room is as it was
	b.shows(1, "d.f_", "..._", "____", "....")
}

func TestPlacesThatAreHandedInStay(t *testing.T) {
	for _, cols := range []int{3, 4} {
		b := document(t, 2, 3, 9, "abc", "+def")
		all := []api.Pos{pos(0, 2), pos(9, 9), pos(7, 7)}
		l := all[:2]
		_, m, _ := b.p.Resize(2, cols, pos(1, 1), l...)
		if !slices.Equal(all, []api.Pos{pos(0, 2), pos(9, 9), pos(7, 7)}) {
			t.Errorf("to %d columns: %v", cols, all)
		}
		m[0] = pos(5, 5)
		m = append(m, pos(6, 6))
		if !slices.Equal(all, []api.Pos{pos(0, 2), pos(9, 9), pos(7, 7)}) {
			t.Errorf("to %d columns: what was answered is what was handed in: %v", cols, all)
		}
	}
}

// TestThereAndBack holds what flows anew and back against what it was: nothing that was written is lost, where there is room.
func TestThereAndBack(t *testing.T) {
	for rows := 1; rows < 7; rows++ {
		for cols := 2; cols < 12; cols++ {
			b := document(t, 3, 5, 99, "abcde", "+fghij", "+k", "", "lm", "\u3042\u3042|", "+\u3042n")
			at := b.resize(rows, cols, pos(2, 3))
			b.check(rows, cols)
			b.resize(3, 5, at)
			b.shows(4, "abcde", "+fghij", "+k____", "_____", "lm___", "\u3042\u3042|", "+\u3042n__")
		}
	}
}
