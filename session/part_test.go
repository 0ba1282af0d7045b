package session_test

import (
	"math"
	"slices"
	"strings"
	"testing"

	"marquee/api"
	"marquee/session"
)

// copies wants the text of a part of a block that isn't cut.
func copies(t *testing.T, s *session.Session, id uint64, part int, want string) {
	t.Helper()
	if got, cut, e := s.Copy(id, part); got != want || cut || e != api.OK {
		t.Errorf("Copy(%d, %d): %q, %v, %v, not %q", id, part, got, cut, e, want)
	}
}

// finds wants the places of a needle.
func finds(t *testing.T, s *session.Session, needle string, id int, want ...api.Pos) {
	t.Helper()
	if got, e := s.Find(needle, id); e != api.OK || !slices.Equal(got, want) {
		t.Errorf("Find(%q, %d): %v, %v, not %v", needle, id, got, e, want)
	}
}

func TestCopy(t *testing.T) {
	s := usually(t, three+"x")
	for part, want := range [][4]string{
		api.PartAll:    {"hi\n", "$ ls\na\nb\n", "$ cat\nc\nd\ne\n", "$ x"},
		api.PartPrompt: {"hi\n", "$ ", "$ ", "$ "},
		api.PartInput:  {"", "ls\n", "cat\n", "x"},
		api.PartOutput: {"", "a\nb\n", "c\nd\ne\n", ""},
	} {
		for id, text := range want {
			copies(t, s, uint64(id), part, text)
		}
	}
	for _, part := range []int{math.MinInt, -1, 4, math.MaxInt} {
		if text, cut, e := s.Copy(1, part); text != "" || cut || e != api.ErrArg {
			t.Errorf("Copy of the part %d: %q, %v, %v", part, text, cut, e)
		}
	}
	for _, id := range []uint64{4, 9, math.MaxUint64} {
		for _, part := range []int{0, 3, 4, -1} {
			if text, cut, e := s.Copy(id, part); text != "" || cut || e != api.ErrNone {
				t.Errorf("Copy of %d: %q, %v, %v", id, text, cut, e)
			}
		}
	}
}

// TestCopyAtTheEnd: line feeds at the end go, if the part ends where the document does, and only then.
func TestCopyAtTheEnd(t *testing.T) {
	s := usually(t)
	copies(t, s, 0, api.PartAll, "")
	s.Feed([]byte("a\r\n\r\n"))
	copies(t, s, 0, api.PartAll, "a")
	s.Feed([]byte(prompt))
	copies(t, s, 0, api.PartAll, "a\n\n")
	copies(t, s, 1, api.PartAll, "")
	copies(t, s, 1, api.PartPrompt, "")
	s.Feed([]byte("p\r\n"))
	copies(t, s, 1, api.PartAll, "p")
	copies(t, s, 1, api.PartPrompt, "p")
	copies(t, s, 1, api.PartOutput, "")
	s.Feed([]byte(input + "i\r\n\n"))
	copies(t, s, 1, api.PartPrompt, "p\n")
	copies(t, s, 1, api.PartInput, "i")
	s.Feed([]byte(output + "o\r\n\r\n"))
	copies(t, s, 1, api.PartInput, "i\n\n")
	copies(t, s, 1, api.PartOutput, "o")
	copies(t, s, 1, api.PartAll, "p\ni\n\no")
	s.Feed([]byte(done))
	copies(t, s, 1, api.PartOutput, "o\n\n")
	copies(t, s, 1, api.PartAll, "p\ni\n\no")
	s.Feed([]byte(prompt))
	copies(t, s, 1, api.PartAll, "p\ni\n\no\n\n")
}

// TestCopyOfPartsOfRows: parts begin and end within rows, and a line may have several of them.
func TestCopyOfPartsOfRows(t *testing.T) {
	s := usually(t, "x"+prompt+"p"+input+"i"+output+"o"+done+"y"+prompt+"z")
	copies(t, s, 0, api.PartAll, "x")
	copies(t, s, 1, api.PartAll, "pioy")
	copies(t, s, 1, api.PartPrompt, "p")
	copies(t, s, 1, api.PartInput, "i")
	copies(t, s, 1, api.PartOutput, "o")
	copies(t, s, 2, api.PartAll, "z")
	// Lines that go on from a block to the next one.
	s = usually(t, "0123456"+prompt+"789abc"+input+"defghijkl"+output+"mnopqrstuv"+done+"w\r\n\r\n"+prompt)
	rows(t, s, "0123456789", "+abcdefghij", "+klmnopqrst", "+uvw", "", "")
	copies(t, s, 0, api.PartAll, "0123456")
	copies(t, s, 1, api.PartPrompt, "789abc")
	copies(t, s, 1, api.PartInput, "defghijkl")
	copies(t, s, 1, api.PartOutput, "mnopqrstuv")
	copies(t, s, 1, api.PartAll, "789abcdefghijklmnopqrstuvw\n\n")
	for cols := 2; cols < 50; cols++ {
		s.Size(4, cols)
		copies(t, s, 0, api.PartAll, "0123456")
		copies(t, s, 1, api.PartInput, "defghijkl")
		copies(t, s, 1, api.PartOutput, "mnopqrstuv")
	}
}

// TestCopyOfCells: what stands there is copied, scalars of two columns and marks, too; colors aren't.
func TestCopyOfCells(t *testing.T) {
	s := usually(t, output+"\x1b[31ma\u3042e\u0301\x1b[m  \r\n\tb\r\n012345678\u3042\r\n"+done)
	copies(t, s, 1, api.PartOutput, "a\u3042e\u0301  \n        b\n012345678\u3042\n")
}

func TestCopyOfCutOnes(t *testing.T) {
	small := usual
	small.Lines = 0
	s := fed(t, small, prompt+"p"+output+"a\r\nb\r\nc\r\nd\r\n"+done)
	for part, want := range []string{"b\nc\nd", "", "", "b\nc\nd\n"} {
		if text, cut, e := s.Copy(1, part); text != want || !cut || e != api.OK {
			t.Errorf("Copy(1, %d): %q, %v, %v, not %q", part, text, cut, e, want)
		}
	}
	if text, cut, e := s.Copy(1, 4); text != "" || cut || e != api.ErrArg {
		t.Errorf("Copy(1, 4): %q, %v, %v", text, cut, e)
	}
	copies(t, s, 0, api.PartAll, "")
}

func TestFind(t *testing.T) {
	s := usually(t, three+"a ls")
	finds(t, s, "a", -1, pos(2, 0), pos(4, 3), pos(8, 2))
	finds(t, s, "a", 0)
	finds(t, s, "a", 1, pos(2, 0))
	finds(t, s, "a", 2, pos(4, 3))
	finds(t, s, "a", 3, pos(8, 2))
	finds(t, s, "hi", 0, pos(0, 0))
	finds(t, s, "hi", 1)
	finds(t, s, "ls", -1, pos(1, 2), pos(8, 4))
	finds(t, s, "$ ", -1, pos(1, 0), pos(4, 0), pos(8, 0))
	finds(t, s, "$ ", 2, pos(4, 0))
	finds(t, s, "none", -1)
	finds(t, s, "A", -1) // letters mean themselves
	for _, id := range []int{math.MinInt, -3, -2, 4, 5, math.MaxInt} {
		if l, e := s.Find("a", id); len(l) != 0 || e != api.ErrNone {
			t.Errorf("Find of %d: %v, %v", id, l, e)
		}
	}
	for _, id := range []int{-1, 0, 1, -2, 9} {
		if l, e := s.Find("", id); len(l) != 0 || e != api.ErrArg {
			t.Errorf("Find of nothing in %d: %v, %v", id, l, e)
		}
	}
}

// TestFindPlaces: places may overlap, and needles go over rows and lines, but not over blocks.
func TestFindPlaces(t *testing.T) {
	s := usually(t, "aaaa\r\n"+prompt+"01234567ab"+"cdaa"+input+"a\r\n\u3042be\u0301\r\n")
	rows(t, s, "aaaa", "01234567ab", "+cdaaa", "\u3042be\u0301", "")
	finds(t, s, "aa", -1, pos(0, 0), pos(0, 1), pos(0, 2), pos(2, 2), pos(2, 3))
	finds(t, s, "aa", 1, pos(2, 2), pos(2, 3)) // from the prompt to the command line
	finds(t, s, "abc", -1, pos(1, 8))
	finds(t, s, "bcd", 1, pos(1, 9))
	finds(t, s, "a\n01", -1, pos(0, 3))
	finds(t, s, "a\n", 0, pos(0, 3))
	finds(t, s, "a\n0", 0)
	finds(t, s, "\n", -1, pos(0, 10), pos(2, 10), pos(3, 10), pos(4, 10))
	finds(t, s, "\n\u3042", 1, pos(2, 10))
	finds(t, s, "be", 1, pos(3, 2))
	finds(t, s, "\u0301", 1, pos(3, 3)) // a mark is in its cell
	finds(t, s, "\x81\x82b", -1, pos(3, 0))
}

// TestFindAtTheEnd: line feeds behind what is written last stand there, as rows do.
func TestFindAtTheEnd(t *testing.T) {
	s := usually(t, prompt+"a")
	finds(t, s, "a\n\n", -1, pos(0, 0))
	finds(t, s, "a\n\n\n\n", 1, pos(0, 0))
	finds(t, s, "a\n\n\n\n\n", 1)
	copies(t, s, 1, api.PartAll, "a")
}

// TestFindBehindOtherSizes: what is found is where it stands then.
func TestFindBehindOtherSizes(t *testing.T) {
	s := usually(t, three)
	s.Size(4, 3)
	rows(t, s, "hi", "$ l", "+s", "a", "b", "$ c", "+at", "c", "d", "e", "$ ")
	finds(t, s, "ls", -1, pos(1, 2))
	finds(t, s, "at", 2, pos(6, 0))
	finds(t, s, "c", 2, pos(5, 2), pos(7, 0))
}

// TestFindOfMuch: a needle in many rows.
func TestFindOfMuch(t *testing.T) {
	much := usual
	much.Lines = 3000
	s := fed(t, much, strings.Repeat("abcabc\r\n", 2000))
	l, e := s.Find("abc", -1)
	if e != api.OK || len(l) != 4000 || l[3999] != pos(1999, 3) {
		t.Errorf("%d places, %v", len(l), e)
	}
}
