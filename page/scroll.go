package page

import (
	"slices"

	"marquee/api"
	"marquee/cells"
)

// Up scrolls a region up.
func (p *Page) Up(top, bottom, n int, back api.Color) {
	p.times(top, bottom, n, func() {
		if top == 0 {
			p.retire(bottom, back)
		} else {
			p.cut(top, bottom, back)
		}
	})
}

// Cut takes a region's first rows out.
func (p *Page) Cut(top, bottom, n int, back api.Color) {
	p.times(top, bottom, n, func() {
		p.cut(top, bottom, back)
	})
}

// Down scrolls a region down.
func (p *Page) Down(top, bottom, n int, back api.Color) {
	p.times(top, bottom, n, func() {
		p.takeOut(bottom)
		p.putIn(top, back)
		p.beginLines(top+1, bottom+1)
	})
}

// Forget lets the history go.
func (p *Page) Forget() {
	n := p.Base()
	if n == 0 {
		return
	}
	p.history.Clear()
	p.tell(api.Evict, 0, n)
	p.beginLines(0)
}

// Shifts is what was done to rows.
func (p *Page) Shifts() []api.Shift {
	if p == nil {
		return nil
	}
	l := p.shifts
	p.shifts = nil
	return l
}

// times does something n times, but no more often than a region has rows, and not at all to what is no region.
func (p *Page) times(top, bottom, n int, do func()) {
	if !p.has(top) || !p.has(bottom) {
		return
	}
	for range min(n, bottom-top+1) {
		do()
	}
}

// retire makes the screen's first row one of the history, and puts a blank row in behind the row bottom.
func (p *Page) retire(bottom int, back api.Color) {
	p.putIn(bottom+1, back)
	_, full := p.history.Push(p.screen[0])
	p.screen = slices.Delete(p.screen, 0, 1)
	if full {
		p.tell(api.Evict, 0, 1)
	}
	p.beginLines(bottom + 1)
}

// cut takes the row top out, and puts a blank one in as the row bottom.
func (p *Page) cut(top, bottom int, back api.Color) {
	p.takeOut(top)
	p.putIn(bottom, back)
	p.beginLines(top, bottom+1)
}

// takeOut takes a row of the screen out.
func (p *Page) takeOut(y int) {
	p.tell(api.Delete, p.Base()+y, 1)
	p.screen = slices.Delete(p.screen, y, y+1)
}

// putIn puts a blank row in as a row of the screen.
func (p *Page) putIn(y int, back api.Color) {
	p.tell(api.Insert, p.Base()+y, 1)
	p.screen = slices.Insert(p.screen, y, api.Row{Cells: cells.Blanks(p.cols, back)})
}

// tell keeps a shift until it is asked for.
func (p *Page) tell(kind, at, n int) {
	p.shifts = append(p.shifts, api.Shift{Kind: kind, At: at, N: n})
}
