package chars_test

import (
	"math"
	"slices"
	"strconv"
	"strings"
	"testing"

	"marquee/api"
	"marquee/chars"
)

// linesTold is the document's list of what 60 to 7e print as, as it stands there.
const linesTold = "25c6, 2592, 2409, 240c, 240d, 240a, b0, b1, 2424, 240b, 2518, 2510, 250c, 2514, 253c, 23ba, 23bb, 2500, 23bc, 23bd, 251c, 2524, 2534, 252c, 2502, 2264, 2265, 3c0, 2260, a3, b7"

// drawnTold is what scalars of a set of lines print as, by the document's words; all others print as themselves.
func drawnTold(t *testing.T) map[rune]rune {
	m := map[rune]rune{0x5f: 0x20}
	for i, s := range strings.Split(linesTold, ", ") {
		n, err := strconv.ParseInt(s, 16, 32)
		if err != nil {
			t.Fatal(err)
		}
		m[rune(0x60+i)] = rune(n)
	}
	if len(m) != 0x7e-0x60+2 {
		t.Fatal(len(m), "are told")
	}
	return m
}

// printsAs is what a scalar prints as in a set of a kind, by the document's words.
func printsAs(drawn map[rune]rune, kind int, r rune) rune {
	if x, ok := drawn[r]; ok && kind == 48 {
		return x
	}
	if kind == 65 && r == '#' {
		return 0xa3
	}
	return r
}

func state(use, once int, sets ...int) chars.State {
	return chars.State{Sets: [4]int(sets), Use: use, Once: once}
}

func TestNew(t *testing.T) {
	if got := chars.New(); got != state(0, 0, 66, 66, 66, 66) {
		t.Errorf("New: %v", got)
	}
}

func TestName(t *testing.T) {
	for _, s := range []chars.State{chars.New(), state(3, 2, 1, 2, 3, 4), state(-1, 9, 48, 65, 66, 0)} {
		for i, inter := range []string{"(", ")", "*", "+"} {
			for last := range 256 {
				want := s
				if last == 66 || last == 48 || last == 65 {
					want.Sets[i] = last
				}
				if got := s.Name(inter, byte(last)); got != want {
					t.Errorf("%v.Name(%q, %d): %v", s, inter, last, got)
				}
			}
		}
		for c := range 256 {
			if inter := string([]byte{byte(c)}); !strings.Contains("()*+", inter) && s.Name(inter, 48) != s {
				t.Errorf("%v.Name(%q, 48): %v", s, inter, s.Name(inter, 48))
			}
		}
		for _, inter := range []string{"", "((", "()", "()*+", " (", "( ", "\uff08", "-", "."} {
			if got := s.Name(inter, 48); got != s {
				t.Errorf("%v.Name(%q, 48): %v", s, inter, got)
			}
		}
	}
}

func TestTakeAndLock(t *testing.T) {
	for _, s := range []chars.State{chars.New(), state(3, 2, 48, 65, 66, 7), state(1, 3, 66, 66, 66, 66), state(-5, 9, 1, 2, 3, 4)} {
		for c := range 256 {
			taken, locked := s, s
			switch c {
			case 0x0e:
				taken.Use = 1
			case 0x0f:
				taken.Use = 0
			case 'n':
				locked.Use = 2
			case 'o':
				locked.Use = 3
			case 'N':
				locked.Once = 2
			case 'O':
				locked.Once = 3
			}
			if got := s.Take(byte(c)); got != taken {
				t.Errorf("%v.Take(%x): %v", s, c, got)
			}
			if got := s.Lock(byte(c)); got != locked {
				t.Errorf("%v.Lock(%x): %v", s, c, got)
			}
		}
	}
}

func TestMap(t *testing.T) {
	for _, x := range []struct {
		s       chars.State
		r, want rune
	}{
		{chars.New().Name("(", 48), 0x71, 0x2500}, // the chapter's example
		{chars.New(), 0x71, 0x71},
		{chars.New(), '#', '#'},
		{state(0, 0, 48, 66, 66, 66), 0x5e, 0x5e},
		{state(0, 0, 48, 66, 66, 66), 0x5f, 0x20},
		{state(0, 0, 48, 66, 66, 66), 0x60, 0x25c6},
		{state(0, 0, 48, 66, 66, 66), 0x7e, 0xb7},
		{state(0, 0, 48, 66, 66, 66), 0x7f, 0x7f},
		{state(0, 0, 48, 66, 66, 66), '#', '#'},
		{state(0, 0, 65, 66, 66, 66), '#', 0xa3},
		{state(0, 0, 65, 66, 66, 66), 'q', 'q'},
		{state(1, 0, 66, 48, 66, 66), 'q', 0x2500},
		{state(2, 0, 66, 66, 48, 66), 'q', 0x2500},
		{state(3, 0, 66, 66, 66, 48), 'q', 0x2500},
		{state(0, 2, 66, 66, 48, 66), 'q', 0x2500},
		{state(0, 3, 66, 66, 66, 48), 'q', 0x2500},
		{state(0, 2, 48, 66, 66, 66), 'q', 'q'},      // Once comes ahead of Use
		{state(0, 1, 66, 48, 48, 48), 'q', 'q'},      // 1 isn't once
		{state(4, 0, 48, 66, 66, 66), 'q', 0x2500},   // no use: the set 0
		{state(-1, -2, 48, 66, 66, 66), 'q', 0x2500}, // neither
		{state(0, 0, 0, 48, 48, 48), 'q', 'q'},       // no kind: ASCII
		{state(0, 0, 65, 66, 66, 66), -1, -1},
		{state(0, 0, 48, 66, 66, 66), 0xd800, 0xd800},
		{state(0, 0, 48, 66, 66, 66), math.MaxInt32, math.MaxInt32},
		{state(0, 0, 48, 66, 66, 66), math.MinInt32, math.MinInt32},
	} {
		want := x.s
		want.Once = 0
		if got, s := x.s.Map(x.r); got != x.want || s != want {
			t.Errorf("%v.Map(%x): %x, %v, not %x", x.s, x.r, got, s, x.want)
		}
	}
}

func TestMapAllScalars(t *testing.T) {
	drawn := drawnTold(t)
	for _, kind := range []int{66, 48, 65, 0, 1, 64, 67, 49, 47, -48, 256 + 48, math.MinInt, math.MaxInt} {
		s := state(0, 0, kind, 66, 66, 66)
		for r := rune(-0x100); r <= api.MaxRune+0x100; r++ {
			if r == 0x300 && kind != 48 && kind != 65 {
				break
			}
			if got, behind := s.Map(r); got != printsAs(drawn, kind, r) || behind != s {
				t.Fatalf("%v.Map(%x): %x, %v", s, r, got, behind)
			}
		}
	}
}

// TestMapInEachSet: all ways in which the kinds stand in the four sets, with all of them in use, and once.
func TestMapInEachSet(t *testing.T) {
	drawn := drawnTold(t)
	kinds := []int{66, 48, 65, 7}
	numbers := []int{math.MinInt, -1, 0, 1, 2, 3, 4, math.MaxInt}
	for n := range 256 {
		sets := [4]int{kinds[n&3], kinds[n>>2&3], kinds[n>>4&3], kinds[n>>6]}
		for _, use := range numbers {
			for _, once := range numbers {
				s := chars.State{Sets: sets, Use: use, Once: once}
				kind := sets[0]
				if 0 <= use && use <= 3 {
					kind = sets[use]
				}
				if once == 2 || once == 3 {
					kind = sets[once]
				}
				for _, r := range []rune{'q', '#', '_', 'A'} {
					want := chars.State{Sets: sets, Use: use}
					if got, behind := s.Map(r); got != printsAs(drawn, kind, r) || behind != want {
						t.Fatalf("%v.Map(%x): %x, %v", s, r, got, behind)
					}
				}
			}
		}
	}
}

func TestAll(t *testing.T) {
	for _, x := range []struct {
		s      chars.State
		l      []rune
		want   []rune
		behind chars.State
	}{
		{state(0, 2, 66, 66, 48, 66), nil, nil, state(0, 2, 66, 66, 48, 66)}, // nothing came: it still is once
		{state(0, 2, 66, 66, 48, 66), []rune{'q'}, []rune{0x2500}, state(0, 0, 66, 66, 48, 66)},
		{state(0, 2, 66, 66, 48, 66), []rune{'q', 'q'}, []rune{0x2500, 'q'}, state(0, 0, 66, 66, 48, 66)},
		{state(1, 3, 66, 48, 66, 65), []rune{'#', '#', 'x', 'q', '_'}, []rune{0xa3, '#', 0x2502, 0x2500, ' '}, state(1, 0, 66, 48, 66, 65)},
		{state(9, 9, 7, 48, 48, 48), []rune{'q', -1, 0x110000}, []rune{'q', -1, 0x110000}, state(9, 0, 7, 48, 48, 48)},
	} {
		if got, behind := x.s.All(x.l...); !slices.Equal(got, x.want) || behind != x.behind {
			t.Errorf("%v.All(%x): %x, %v, not %x, %v", x.s, x.l, got, behind, x.want, x.behind)
		}
	}
}

func TestAllIsMapOneBehindTheOther(t *testing.T) {
	l := []rune{'q', '#', 0x7e, 0x5f, 0x3042, 'q', -1}
	for n := range 81 {
		kinds := []int{66, 48, 65}
		s := state(n%4, n%5, kinds[n%3], kinds[n/3%3], kinds[n/9%3], kinds[n/27])
		want, behind := []rune{}, s
		for _, r := range l {
			var x rune
			x, behind = behind.Map(r)
			want = append(want, x)
		}
		if got, last := s.All(l...); !slices.Equal(got, want) || last != behind {
			t.Errorf("%v.All: %x, %v, not %x, %v", s, got, last, want, behind)
		}
	}
}

func TestNothingIsSharedOrChanged(t *testing.T) {
	whole := []rune{'q', 'x', 'z'}
	s := chars.New().Name("(", 48)
	l, _ := s.All(whole[:2]...)
	l[0] = 'y'
	_ = append(l, 'y')
	if !slices.Equal(whole, []rune{'q', 'x', 'z'}) {
		t.Errorf("what was handed in was changed: %x", whole)
	}
	s.Take(0x0e)
	s.Lock('N')
	s.Name(")", 65)
	s.Map('q')
	if s != state(0, 0, 48, 66, 66, 66) {
		t.Errorf("a state was changed: %v", s)
	}
}
