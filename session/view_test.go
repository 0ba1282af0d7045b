package session_test

import (
	"math"
	"slices"
	"strings"
	"testing"

	"marquee/api"
	"marquee/session"
)

// row is an item that is a row, gone one that hides some.
func row(n int) api.Item {
	return api.Item{Row: n}
}

func gone(n int, id uint64, hidden int) api.Item {
	return api.Item{Row: n, Id: id, Hidden: hidden}
}

// items wants what is shown of the document.
func items(t *testing.T, s *session.Session, want ...api.Item) {
	t.Helper()
	if got := s.Items(); !slices.Equal(got, want) {
		t.Errorf("Items: %v, not %v", got, want)
	}
}

// top wants the place of the item that is seen first, and that as many are seen as there are rows, or items.
func top(t *testing.T, s *session.Session, want int) {
	t.Helper()
	seen, at := s.View()
	all := s.Items()
	height := min(s.Term().Screen().Page().Rows(), len(all))
	if at != want || want+height > len(all) || !slices.Equal(seen, all[want:want+height]) {
		t.Errorf("View: %v from %d on, not from %d, of %v", seen, at, want, all)
	}
}

// seen wants the rows that are seen.
func seen(t *testing.T, s *session.Session, want ...string) {
	t.Helper()
	if got := lines(s.Shown()); !slices.Equal(got, want) {
		t.Errorf("Shown: %q, not %q", got, want)
	}
}

// folds folds blocks, or unfolds them.
func folds(t *testing.T, s *session.Session, on bool, ids ...uint64) {
	t.Helper()
	for _, id := range ids {
		if e := s.Fold(id, on); e != api.OK {
			t.Errorf("Fold(%d, %v): %v", id, on, e)
		}
	}
}

// folded wants the numbers of the folded blocks.
func folded(t *testing.T, s *session.Session, want ...uint64) {
	t.Helper()
	if got := s.Folded(); !slices.Equal(got, want) {
		t.Errorf("Folded: %v, not %v", got, want)
	}
}

func TestFold(t *testing.T) {
	s := usually(t, three)
	for _, id := range []uint64{0, 4, 5, math.MaxUint64} {
		for _, on := range []bool{true, false} {
			if e := s.Fold(id, on); e != api.ErrNone {
				t.Errorf("Fold(%d, %v): %v", id, on, e)
			}
		}
	}
	folded(t, s)
	folds(t, s, false, 1) // it isn't, as before
	folded(t, s)
	folds(t, s, true, 3, 1, 1)
	folded(t, s, 1, 3)
	folds(t, s, true, 2)
	folded(t, s, 1, 2, 3)
	folds(t, s, false, 1, 3)
	folded(t, s, 2)
	folds(t, s, false, 2, 2)
	folded(t, s)
	rows(t, s, "hi", "$ ls", "a", "b", "$ cat", "c", "d", "e", "$ ")
}

func TestItems(t *testing.T) {
	s := usually(t, three)
	items(t, s, row(0), row(1), row(2), row(3), row(4), row(5), row(6), row(7), row(8))
	folds(t, s, true, 2)
	items(t, s, row(0), row(1), row(2), row(3), row(4), gone(5, 2, 3), row(8))
	folds(t, s, true, 1)
	items(t, s, row(0), row(1), gone(2, 1, 2), row(4), gone(5, 2, 3), row(8))
	folds(t, s, true, 3) // it has no output yet
	items(t, s, row(0), row(1), gone(2, 1, 2), row(4), gone(5, 2, 3), row(8))
	s.Feed([]byte("x\r\n" + output + "f"))
	items(t, s, row(0), row(1), gone(2, 1, 2), row(4), gone(5, 2, 3), row(8), gone(9, 3, 1)) // up to the end
	s.Feed([]byte("\r\ng"))
	items(t, s, row(0), row(1), gone(2, 1, 2), row(4), gone(5, 2, 3), row(8), gone(9, 3, 2))
	folds(t, s, false, 1, 2, 3)
	if l := s.Items(); len(l) != 11 || l[10] != row(10) {
		t.Error("Items", l)
	}
}

// TestFoldsOfOutput: which rows are hidden hangs on the columns in which output begins and is done.
func TestFoldsOfOutput(t *testing.T) {
	for _, x := range []struct {
		fed  string
		want []api.Item
	}{
		{prompt + "$ " + output + "a\r\nb\r\n" + done, []api.Item{row(0), gone(1, 1, 1), row(2), row(3)}},                                // it begins behind the prompt
		{prompt + "$ \r\n" + output + "a\r\nb" + done, []api.Item{row(0), gone(1, 1, 1), row(2), row(3)}},                                // it is done behind b
		{prompt + "$ " + output + "a\r\nb" + done, []api.Item{row(0), row(1), row(2), row(3)}},                                           // no row is between
		{prompt + "$ " + output + "a" + done, []api.Item{row(0), row(1), row(2), row(3)}},                                                // nor here
		{prompt + "$ \r\n" + output + done, []api.Item{row(0), row(1), row(2), row(3)}},                                                  // there is none
		{prompt + "$ \r\n" + done + "a\r\nb\r\n", []api.Item{row(0), row(1), row(2), row(3)}},                                            // what is behind Done isn't hidden
		{prompt + "a\r\nb\r\n", []api.Item{row(0), row(1), row(2), row(3)}},                                                              // a prompt alone
		{prompt + input + "a\r\nb\r\n", []api.Item{row(0), row(1), row(2), row(3)}},                                                      // a command line
		{output + "a\r\n", []api.Item{gone(0, 1, 4)}},                                                                                    // up to the end
		{"a" + output + "b\r\n", []api.Item{row(0), gone(1, 1, 3)}},                                                                      // likewise
		{"a\r\n" + output + "b\r\nc\r\n" + done + "d", []api.Item{row(0), gone(1, 1, 2), row(3)}},                                        // ahead of what else is printed
		{output + "a\r\n" + prompt + "b", []api.Item{gone(0, 1, 1), row(1), row(2), row(3)}},                                             // up to the next block
		{output + "a\r\nb" + prompt + "c", []api.Item{gone(0, 1, 1), row(1), row(2), row(3)}},                                            // whose prompt isn't hidden
		{output + "a\r\nb\r\nc\x1b[1;1H" + prompt, []api.Item{row(0), row(1), row(2), row(3)}},                                           // which starts at once
		{"\r\n" + output + "0123456789ab\r\n" + done, []api.Item{row(0), gone(1, 1, 2), row(3)}},                                         // rows that go on, too
		{output + "a\r\n\r\n\r\nb\x1b[2;1H" + done + "\x1b[4;1H", []api.Item{gone(0, 1, 1), row(1), row(2), row(3)}},                     // it is done where the cursor is
		{"\r\n" + output + "a\r\nb\x1b[H" + done, []api.Item{row(0), row(1), row(2), row(3)}},                                            // which isn't ahead of where it began
		{"\x1b[2;11H" + output + "\r\na\r\n" + done, []api.Item{row(0), row(1), gone(2, 1, 1), row(3)}},                                  // from the last column
		{"\r\n0123456789" + output + "\r\na\r\n" + done, []api.Item{row(0), row(1), gone(2, 1, 1), row(3)}},                              // from the edge
		{output + "a\r\nb\r\n\r\n\x1b[2;3H" + done + "\x1b[4;1H", []api.Item{gone(0, 1, 1), row(1), row(2), row(3)}},                     // amid a row
		{"\x1b[4;1H" + output + "a\r\n\x1b[T" + done, []api.Item{row(0), row(1), row(2), row(3), row(4)}},                                // of rows that were scrolled away
		{output + "a\r\n" + two + output + "b\r\nc\r\n" + done + one, []api.Item{gone(0, 1, 4)}},                                         // what comes on the other screen isn't told
		{output + "a\r\n" + done + output + "b\r\n" + done, []api.Item{gone(0, 1, 1), row(1), row(2), row(3)}},                           // the other block isn't folded
		{output + "a\r\nb\r\n" + done + "\x1b[H\x1b[2M", []api.Item{row(0), row(1), row(2), row(3)}},                                     // all its rows are gone
		{output + "a\r\nb\r\n" + done + "\x1b[H\x1b[M", []api.Item{gone(0, 1, 1), row(1), row(2), row(3)}},                               // one of them
		{output + "a\r\nb\r\n" + done + "\x1b[2;1H\x1b[L", []api.Item{gone(0, 1, 3), row(3)}},                                            // one more
		{"a\r\n" + output + "b\r\n" + done + "\x1b[4;1H\r\n\r\n\x1b[3J", []api.Item{row(0), row(1), row(2), row(3)}},                     // it went with the history, but for its number
		{"a\r\n" + output + "b\r\nc\r\nd\r\n" + done + "\r\n\x1b[3J", []api.Item{gone(0, 1, 2), row(2), row(3)}},                         // a part of it went
		{"a\r\n" + output + "b\r\nc\r\nd\r\n" + done + "\x1b[2J\x1b[H", []api.Item{row(0), gone(1, 1, 3), row(4)}},                       // what is erased is hidden, too
		{"a\r\n" + output + "b\r\nc\r\nd\r\n" + done + "\x1bcz", []api.Item{row(0), gone(1, 1, 3), row(4)}},                              // likewise
		{prompt + "\r\n" + output + "\r\n\r\n\r\n" + done, []api.Item{row(0), gone(1, 1, 3), row(4)}},                                    // of nothing
		{prompt + "\r\n" + output + "\r\n\r\n\r\n\r\n\r\n" + done + "$", []api.Item{row(0), gone(1, 1, 5), row(6)}},                      // of more than the screen has
		{prompt + "\x1b[4;3H" + output + "\r\n" + done + "\r\n\r\n", []api.Item{row(0), row(1), row(2), row(3), row(4), row(5), row(6)}}, // none
	} {
		s := usually(t, x.fed)
		folds(t, s, true, 1)
		if got := s.Items(); !slices.Equal(got, x.want) {
			t.Errorf("%q: %v, not %v", x.fed, got, x.want)
		}
	}
}

// TestFoldsSideBySide: where one output ends the other one may begin.
func TestFoldsSideBySide(t *testing.T) {
	s := usually(t, output+"a\r\n"+done+output+"b\r\nc\r\n"+done+"d")
	folds(t, s, true, 2, 1)
	items(t, s, gone(0, 1, 1), gone(1, 2, 2), row(3))
	seen(t, s, "", "", "d")
}

func TestView(t *testing.T) {
	s := newSession(t, usual)
	top(t, s, 0)
	s.Feed([]byte("a\r\nb\r\nc\r\nd"))
	top(t, s, 0)
	s.Feed([]byte("\r\ne"))
	top(t, s, 1) // it follows
	seen(t, s, "b", "c", "d", "e")
	s = usually(t, three)
	top(t, s, 5)
	seen(t, s, "c", "d", "e", "$ ")
	folds(t, s, true, 2)
	top(t, s, 3)
	seen(t, s, "b", "$ cat", "", "$ ")
	folds(t, s, true, 1)
	top(t, s, 2)
	seen(t, s, "", "$ cat", "", "$ ")
	folds(t, s, false, 1, 2)
	top(t, s, 5)
}

// TestViewOfFew: there may be fewer items than rows of the screen.
func TestViewOfFew(t *testing.T) {
	s := usually(t, output+"a\r\nb\r\nc\r\n"+done+"d")
	folds(t, s, true, 1)
	top(t, s, 0)
	seen(t, s, "", "d")
	s.Scroll(-1)
	s.Scroll(1)
	top(t, s, 0)
	if e := s.Jump(1, 0); e != api.ErrNone {
		t.Error("Jump", e)
	}
	folds(t, s, false, 1)
	s.Feed([]byte("\r\ne"))
	top(t, s, 1) // it follows, since 0 was the greatest top
}

func TestScroll(t *testing.T) {
	s := usually(t, three)
	for _, x := range []struct{ n, want int }{
		{1, 4}, {0, 4}, {2, 2}, {-1, 3}, {9, 0}, {1, 0}, {-2, 2}, {-2, 4}, {-9, 5}, {-1, 5}, {0, 5},
		{math.MaxInt, 0}, {math.MinInt, 5}, {1 << 40, 0}, {-1 << 40, 5}, {5, 0}, {-5, 5}, {4, 1}, {-3, 4}, {-1, 5},
	} {
		s.Scroll(x.n)
		if _, at := s.View(); at != x.want {
			t.Errorf("Scroll(%d): to %d, not to %d", x.n, at, x.want)
		}
	}
	s.Scroll(2)
	seen(t, s, "b", "$ cat", "c", "d")
}

// TestFollow: it follows from the greatest top on, and stays elsewhere.
func TestFollow(t *testing.T) {
	s := usually(t, three)
	s.Scroll(1)
	top(t, s, 4)
	s.Feed([]byte("x\r\ny\r\n"))
	top(t, s, 4)
	seen(t, s, "$ cat", "c", "d", "e")
	s.Scroll(-2)
	top(t, s, 6)
	s.Feed([]byte("z"))
	top(t, s, 6)
	s.Scroll(-1)
	top(t, s, 7)
	s.Feed([]byte("\r\n\r\n"))
	top(t, s, 9)
	s.Scroll(0)
	s.Feed([]byte("\r\n"))
	top(t, s, 10)
}

// TestTopStays: where there are fewer items for a while, its top is brought to what there is, and to where it was again.
func TestTopStays(t *testing.T) {
	s := usually(t, three)
	s.Scroll(1)
	folds(t, s, true, 1, 2)
	top(t, s, 2)
	folds(t, s, false, 1)
	top(t, s, 3)
	folds(t, s, false, 2)
	top(t, s, 4)
	s.Feed([]byte("\r\n"))
	top(t, s, 4) // it doesn't follow, though it showed the last ones
	folds(t, s, true, 1, 2)
	top(t, s, 3)
	s.Scroll(0) // it is turned to what is seen
	folds(t, s, false, 1, 2)
	s.Feed([]byte("\r\n"))
	top(t, s, 7)
	folds(t, s, true, 1, 2)
	top(t, s, 4)
	s.Scroll(1) // by one from what is seen
	top(t, s, 3)
}

// TestScrollFromWhatIsSeen: what counts is where it shows from, not a top that is behind all.
func TestScrollFromWhatIsSeen(t *testing.T) {
	s := usually(t, three)
	s.Scroll(1) // to 4
	folds(t, s, true, 1, 2)
	top(t, s, 2)
	s.Scroll(1)
	top(t, s, 1)
	folds(t, s, false, 1, 2)
	top(t, s, 1)
}

func TestViewOfOtherSizes(t *testing.T) {
	s := usually(t, three)
	for _, x := range []struct{ rows, top int }{{2, 7}, {8, 1}, {9, 0}, {12, 0}, {1, 8}, {4, 5}} {
		if e := s.Size(x.rows, 10); e != api.OK {
			t.Fatal(e)
		}
		top(t, s, x.top)
	}
	s.Scroll(3)
	s.Size(8, 10)
	top(t, s, 1)
	s.Size(3, 10)
	top(t, s, 2)
}

func TestShown(t *testing.T) {
	s := usually(t, "\x1b[44m"+output+"abcdefghijkl\r\n"+done+prompt+"$ ")
	seen(t, s, "abcdefghij", "+kl", "$ ", "")
	for i, row := range s.Shown() {
		if !isSameRow(row, s.Rows()[i]) {
			t.Errorf("%d: %v", i, row)
		}
	}
	folds(t, s, true, 1)
	seen(t, s, "", "$ ", "")
	if l := s.Shown(); !isSameRow(l[0], api.Row{Cells: make([]api.Cell, 10)}) || !isSameRow(l[1], s.Rows()[2]) {
		t.Error("Shown", l)
	}
	// The first row that is hidden goes on: what is seen in its place doesn't.
	s = usually(t, "0123456789"+output+"ab\r\ncd\r\n"+done)
	seen(t, s, "0123456789", "+ab", "cd", "")
	folds(t, s, true, 1)
	seen(t, s, "0123456789", "", "")
}

func TestShownOfTheOtherScreen(t *testing.T) {
	s := usually(t, three)
	s.Scroll(2)
	folds(t, s, true, 2)
	s.Feed([]byte(two + "\x1b[Hother\r\n\n\n\n\nmore" + prompt + mark))
	seen(t, s, "", "", "", "more")
	items(t, s, row(0), row(1), row(2), row(3), row(4), gone(5, 2, 3), row(8))
	top(t, s, 3)
	rows(t, s, "hi", "$ ls", "a", "b", "$ cat", "c", "d", "e", "$ ")
	if len(s.Blocks()) != 4 || len(s.Points()) != 0 {
		t.Error("what came changed the blocks")
	}
	s.Size(3, 6)
	seen(t, s, "", "", "")
	s.Feed([]byte("\x1b[2;1Hx"))
	seen(t, s, "", "x", "")
	s.Feed([]byte(one))
	seen(t, s, "b", "$ cat", "")
}

// goes wants where a jump, or a visit, leads to, or (below 0) that there is nowhere to go.
func goes(t *testing.T, s *session.Session, what string, e api.Errno, want int) {
	t.Helper()
	told := api.OK
	if want < 0 {
		told = api.ErrNone
	}
	if _, at := s.View(); e != told || want >= 0 && at != want {
		t.Errorf("%s: %v, to %d, not to %d", what, e, at, want)
	}
}

func TestJump(t *testing.T) {
	s := usually(t, three+strings.Repeat("\r\n", 9)) // 18 rows, the greatest top is 14
	for _, x := range []struct{ from, n, kind, want int }{
		{0, 1, 0, 1}, {0, 2, 0, 4}, {0, 3, 0, 8}, {0, 4, 0, 8}, {0, math.MaxInt, 0, 8}, {0, -1, 0, -1}, {0, math.MinInt, 0, -1}, {0, 0, 0, -1},
		{1, 1, 0, 4}, {1, -1, 0, -1}, {2, -1, 0, 1}, {4, 1, 0, 8}, {4, -1, 0, 1}, {4, 0, 0, -1}, {5, -1, 0, 4}, {5, -2, 0, 1}, {5, -9, 0, 1}, {8, 1, 0, -1}, {8, -1, 0, 4},
		{14, -1, 0, 8}, {14, -2, 0, 4}, {14, math.MinInt, 0, 1}, {14, 1, 0, -1},
		{0, 1, 1, 2}, {0, 2, 1, 5}, {2, 1, 1, 5}, {5, 1, 1, -1}, {14, -1, 1, 5}, {14, -2, 1, 2}, {3, -1, 1, 2}, {2, -1, 1, -1},
		{0, 1, 2, 4}, {0, 2, 2, 4}, {4, 1, 2, -1}, {4, -1, 2, -1}, {14, -1, 2, 4},
		{0, 1, 3, -1}, {14, -1, 3, -1}, {14, -1, -1, -1}, {14, -1, math.MaxInt, -1}, {14, -1, math.MinInt, -1},
	} {
		s.Scroll(math.MaxInt)
		s.Scroll(-x.from)
		top(t, s, x.from)
		goes(t, s, "Jump", s.Jump(x.n, x.kind), x.want)
		if x.want < 0 {
			top(t, s, x.from) // as it was
		}
	}
}

// TestJumpBeyondTheGreatest: the view is turned to the greatest top, and follows then.
func TestJumpBeyondTheGreatest(t *testing.T) {
	s := usually(t, three)
	s.Scroll(9)
	goes(t, s, "Jump", s.Jump(3, 0), 5)
	s.Feed([]byte("\r\n"))
	top(t, s, 6)
	goes(t, s, "Jump", s.Jump(1, 0), 6) // from row 6, which is seen first, to row 8
	goes(t, s, "Jump", s.Jump(-1, 0), 4)
	s.Feed([]byte("\r\n"))
	top(t, s, 4)
}

// TestJumpWithFolds: what is seen first may hide rows, and so may the one where it leads to.
func TestJumpWithFolds(t *testing.T) {
	s := usually(t, three+strings.Repeat("\r\n", 9))
	folds(t, s, true, 1, 2) // 0, 1, 2 to 3, 4, 5 to 7, 8 and those behind
	s.Scroll(math.MaxInt)
	goes(t, s, "Jump", s.Jump(1, 1), 2)
	goes(t, s, "Jump", s.Jump(1, 0), 3)
	goes(t, s, "Jump", s.Jump(1, 1), 4)
	goes(t, s, "Jump", s.Jump(1, 1), -1)
	goes(t, s, "Jump", s.Jump(-1, 0), 3)
	goes(t, s, "Jump", s.Jump(1, 0), 5)
	goes(t, s, "Jump", s.Jump(-1, 1), 4)
	goes(t, s, "Jump", s.Jump(-1, 1), 2)
	top(t, s, 2)
}

// TestJumpToAFold: a block of output alone starts in the first row that it hides.
func TestJumpToAFold(t *testing.T) {
	s := usually(t, "a\r\n"+output+"b\r\nc\r\n"+done+strings.Repeat("\r\n", 5))
	folds(t, s, true, 1)
	items(t, s, row(0), gone(1, 1, 2), row(3), row(4), row(5), row(6), row(7), row(8))
	goes(t, s, "Jump", s.Jump(-1, 0), 1)
	goes(t, s, "Jump", s.Jump(-1, 0), -1)
	s.Scroll(9)
	goes(t, s, "Jump", s.Jump(1, 1), 1)
	goes(t, s, "Jump", s.Jump(1, 1), -1)
}

// TestJumpBehindTheEnd: a stop in a row that isn't there is none.
func TestJumpBehindTheEnd(t *testing.T) {
	s := usually(t, "a\r\nb\r\nc\r\nd\r\n\x1b[4;1H"+prompt+"\x1b[1;1H\x1b[L") // its row is gone, it starts behind the last one
	if l := s.Blocks(); l[1].Start != pos(5, 0) || l[1].Stop != pos(5, 0) {
		t.Fatalf("%+v", l)
	}
	goes(t, s, "Jump", s.Jump(1, 0), -1)
	s.Scroll(1)
	goes(t, s, "Jump", s.Jump(1, 0), -1)
	top(t, s, 0)
	s.Feed([]byte("\x1b[4;1H\r\n"))
	goes(t, s, "Jump", s.Jump(1, 0), -1)
}

func TestVisit(t *testing.T) {
	s := usually(t, "a\r\n"+mark+"b"+mark+"\r\nc\r\nd\r\ne"+mark+"\r\n\x1b[2;1H"+mark+"\x1b[4;1H"+strings.Repeat("\r\n", 9)) // in rows 1, 1, 4, 3
	points(t, s, pos(1, 0), pos(1, 1), pos(3, 0), pos(4, 1))
	for _, x := range []struct{ from, n, want int }{
		{0, 1, 1}, {0, 2, 3}, {0, 3, 4}, {0, 4, 4}, {0, math.MaxInt, 4}, {0, -1, -1}, {0, 0, -1},
		{1, 1, 3}, {1, -1, -1}, {1, 0, -1}, {2, 1, 3}, {2, -1, 1}, {3, 1, 4}, {3, -1, 1}, {4, 1, -1}, {4, -1, 3}, {4, -2, 1}, {4, math.MinInt, 1},
		{11, -1, 4}, {11, -2, 3}, {11, 1, -1}, {11, 0, -1},
	} {
		s.Scroll(math.MaxInt)
		s.Scroll(-x.from)
		top(t, s, x.from)
		goes(t, s, "Visit", s.Visit(x.n), x.want)
		if x.want < 0 {
			top(t, s, x.from)
		}
	}
	s = usually(t, three)
	goes(t, s, "Visit", s.Visit(-1), -1)
	s.Scroll(9)
	goes(t, s, "Visit", s.Visit(1), -1)
}

// TestVisitWithFolds: a point in a row that is hidden is where the fold is.
func TestVisitWithFolds(t *testing.T) {
	s := usually(t, output+"a\r\nb"+mark+"\r\nc\r\n"+done+strings.Repeat("\r\n", 9)+mark)
	folds(t, s, true, 1)
	s.Scroll(1)
	goes(t, s, "Visit", s.Visit(-1), 0)
	goes(t, s, "Visit", s.Visit(1), 0) // from row 0 to row 1, which the same item hides
	goes(t, s, "Visit", s.Visit(2), 7)
}
