package screen

import "math"

// Back goes a column back.
func (s *Screen) Back() {
	if s != nil {
		s.x = s.toColumn(s.in() - 1)
	}
}

// Return goes to the first column.
func (s *Screen) Return() {
	if s != nil {
		s.x = 0
	}
}

// Feed goes to the next row.
func (s *Screen) Feed() {
	if s != nil {
		s.feed()
	}
}

// FeedBack goes to the row ahead.
func (s *Screen) FeedBack() {
	if s == nil {
		return
	}
	if s.y == s.top {
		s.page.Down(s.top, s.bottom, 1, s.attr.Back)
	} else {
		s.y = s.toRow(s.y - 1)
	}
	s.x = s.in()
}

// Tab goes to stops. Who was given them may have given them more columns than the screen has.
func (s *Screen) Tab(n int) {
	switch {
	case s == nil:
		return
	case n > 0:
		s.x = s.toColumn(s.stops.Next(s.in(), n))
	case n < 0:
		s.x = s.toColumn(s.stops.Ahead(s.in(), opposite(n)))
	}
}

// Move goes to a place.
func (s *Screen) Move(y, x int) {
	if s == nil {
		return
	}
	first, last := 0, s.lastRow()
	if s.opts.Home {
		first, last = s.top, s.bottom
	}
	s.y = first + within(0, last-first)(y)
	s.x = s.toColumn(x)
}

// Go goes on from where the cursor is.
func (s *Screen) Go(dy, dx int) {
	if s == nil {
		return
	}
	first, last := 0, s.lastRow()
	if s.y >= s.top {
		first = s.top
	}
	if s.y <= s.bottom {
		last = s.bottom
	}
	s.y = advanced(s.y, dy, first, last)
	s.x = advanced(s.in(), dx, 0, s.lastColumn())
}

// Margins sets the region.
func (s *Screen) Margins(top, bottom int) {
	if s == nil || top < 0 || bottom > s.lastRow() || top >= bottom {
		return
	}
	s.top, s.bottom = top, bottom
	s.Move(0, 0)
}

// Scroll scrolls the region.
func (s *Screen) Scroll(n int) {
	switch {
	case s == nil:
		return
	case n > 0:
		s.page.Up(s.top, s.bottom, n, s.attr.Back)
	case n < 0:
		s.page.Down(s.top, s.bottom, opposite(n), s.attr.Back)
	}
}

// feed goes to the next row, and tells whether it came to another one, or scrolled the region.
func (s *Screen) feed() bool {
	s.x = s.in()
	if s.y == s.bottom {
		s.page.Up(s.top, s.bottom, 1, s.attr.Back)
		return true
	}
	was := s.y
	s.y = s.toRow(s.y + 1)
	return s.y != was
}

// toRow is the nearest row of the screen.
func (s *Screen) toRow(y int) int {
	return within(0, s.lastRow())(y)
}

// toColumn is the nearest column.
func (s *Screen) toColumn(x int) int {
	return within(0, s.lastColumn())(x)
}

// within is what brings a number to the nearest one from least to most.
func within(least, most int) func(n int) int {
	return func(n int) int {
		return max(min(n, most), least)
	}
}

// advanced is a number from least to most, and n more, brought to there. It is n that is brought, since no sum can run over then.
func advanced(from, n, least, most int) int {
	return from + within(least-from, most-from)(n)
}

// opposite is -n of an n below 0. Of the least number there is none, and one less is as many.
func opposite(n int) int {
	return -max(n, -math.MaxInt)
}

// atLeastOnce is how often something is done n times.
func atLeastOnce(n int) int {
	return max(n, 1)
}
