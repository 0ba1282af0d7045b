package screen

import (
	"marquee/api"
	"marquee/width"
)

// none stands for no scalar: its width is -1, so that it is never printed.
const none rune = 0

// Print prints a scalar.
func (s *Screen) Print(r rune) {
	if s == nil {
		return
	}
	r, s.chars = s.chars.Map(r)
	switch w := width.Of(r); w {
	case 0:
		s.page.Mark(s.y, s.x-1, r)
	case 1, 2:
		s.put(r, w)
	}
}

// Repeat prints the last scalar again.
func (s *Screen) Repeat(n int) {
	if s == nil || s.last == none {
		return
	}
	w := width.Of(s.last)
	for range min(atLeastOnce(n), s.page.Rows()*s.page.Cols()) {
		s.put(s.last, w)
	}
}

// Fill fills the screen.
func (s *Screen) Fill() {
	if s == nil {
		return
	}
	for y := range s.page.Rows() {
		s.page.Erase(y, 0, s.page.Cols(), api.Color{}) // a row that is erased whole isn't Cont any more
		for x := range s.page.Cols() {
			s.page.Put(y, x, 'E', api.Attr{})
		}
	}
	s.wholeRegion()
	s.y, s.x = 0, 0
}

// put prints a scalar, as it was mapped, in w columns.
func (s *Screen) put(r rune, w int) {
	if s.x+w > s.page.Cols() {
		s.makeRoom(w)
	}
	if s.opts.Put {
		s.page.InsertCells(s.y, s.x, w, s.attr.Back)
	}
	s.page.Put(s.y, s.x, r, s.attr)
	s.x += w
	s.last = r
}

// makeRoom goes to where there are w columns, from where there aren't so many.
func (s *Screen) makeRoom(w int) {
	if !s.opts.Wrap {
		s.x = s.page.Cols() - w
		return
	}
	if s.x < s.page.Cols() {
		s.page.Pad(s.y)
	}
	isNext := s.feed()
	s.x = 0
	if isNext {
		s.page.Wrap(s.y)
	}
}
