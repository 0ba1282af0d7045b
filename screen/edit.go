package screen

// EraseLine erases a part of the row.
func (s *Screen) EraseLine(k int) {
	switch {
	case s == nil:
		return
	case k == 0:
		s.erase(s.y, s.in(), s.page.Cols())
	case k == 1:
		s.erase(s.y, 0, s.in()+1)
	case k == 2:
		s.eraseRows(s.y, s.y+1)
	}
}

// ErasePage erases a part of the screen, or the history.
func (s *Screen) ErasePage(k int) {
	switch {
	case s == nil:
		return
	case k == 0:
		s.EraseLine(k)
		s.eraseRows(s.y+1, s.page.Rows())
	case k == 1:
		s.EraseLine(k)
		s.eraseRows(0, s.y)
	case k == 2:
		s.eraseRows(0, s.page.Rows())
	case k == 3:
		s.page.Forget()
	}
}

// EraseChars erases cells.
func (s *Screen) EraseChars(n int) {
	s.onCells(n, func(n int) {
		s.erase(s.y, s.x, advanced(s.x, n, 0, s.page.Cols()))
	})
}

// InsertChars puts cells in.
func (s *Screen) InsertChars(n int) {
	s.onCells(n, func(n int) {
		s.page.InsertCells(s.y, s.x, n, s.attr.Back)
	})
}

// DeleteChars takes cells out.
func (s *Screen) DeleteChars(n int) {
	s.onCells(n, func(n int) {
		s.page.DeleteCells(s.y, s.x, n, s.attr.Back)
	})
}

// InsertLines puts rows in.
func (s *Screen) InsertLines(n int) {
	s.onRows(n, func(n int) {
		s.page.Down(s.y, s.bottom, n, s.attr.Back)
	})
}

// DeleteLines takes rows out.
func (s *Screen) DeleteLines(n int) {
	s.onRows(n, func(n int) {
		s.page.Cut(s.y, s.bottom, n, s.attr.Back)
	})
}

// onCells does something to n cells, one at least, from In on, which is the cursor's column then.
func (s *Screen) onCells(n int, do func(n int)) {
	if s == nil {
		return
	}
	s.x = s.in()
	do(atLeastOnce(n))
}

// onRows does something to n rows, one at least, from the cursor's on, if that is of the region.
func (s *Screen) onRows(n int, do func(n int)) {
	if s == nil || s.y < s.top || s.y > s.bottom {
		return
	}
	do(atLeastOnce(n))
	s.x = 0
}

// eraseRows erases the rows from from to to, that not counted.
func (s *Screen) eraseRows(from, to int) {
	for y := from; y < to; y++ {
		s.erase(y, 0, s.page.Cols())
	}
}

// erase makes cells of a row blanks.
func (s *Screen) erase(y, from, to int) {
	s.page.Erase(y, from, to, s.attr.Back)
}
