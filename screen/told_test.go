package screen_test

import (
	"slices"

	"marquee/api"
	"marquee/attr"
	"marquee/chars"
	"marquee/page"
	"marquee/param"
	"marquee/width"
)

// What the document's words make of a screen: whatever is done n times, or goes so far, is gone through one by one here, so that nothing of the package's way is repeated. The page is layer 13's own.
type told struct {
	p           *page.Page
	y, x        int
	attr        api.Attr
	chars       chars.State
	opts        api.Opts
	top, bottom int
	kept        []toldKept // one, or none
	last        []rune     // one, or none
	stops       []int
}

type toldKept struct {
	y, x  int
	attr  api.Attr
	chars chars.State
	home  bool
}

// enough is more than anything has steps that change something, on screens of no more cells.
const enough = 128

func newTold(rows, cols, lines int) *told {
	p, _ := page.New(rows, cols, lines)
	m := &told{p: p, chars: chars.New(), opts: api.Opts{Wrap: true}, bottom: rows - 1}
	for x := 0; x < cols; x += 8 {
		m.stops = append(m.stops, x)
	}
	return m
}

func (m *told) rows() int       { return m.p.Rows() }
func (m *told) cols() int       { return m.p.Cols() }
func (m *told) back() api.Color { return m.attr.Back }

func (m *told) in() int {
	if m.x == m.cols() {
		return m.cols() - 1
	}
	return m.x
}

// times is how often something is done n times, which may be done enough times at most.
func times(n int) int {
	switch {
	case n < 1:
		return 1
	case n > enough:
		return enough
	}
	return n
}

// apart is how far n is from 0, enough at most.
func apart(n int) int {
	switch {
	case n < -enough || n > enough:
		return enough
	case n < 0:
		return -n
	}
	return n
}

// nearest is the one of the numbers from least to most that is nearest to n.
func nearest(n, least, most int) int {
	for i := least; i < most; i++ {
		if n <= i {
			return i
		}
	}
	return most
}

// feed tells whether y is another row by it, or the region was scrolled.
func (m *told) feed() bool {
	m.x = m.in()
	switch m.y {
	case m.bottom:
		m.p.Up(m.top, m.bottom, 1, m.back())
	case m.rows() - 1:
		return false
	default:
		m.y++
	}
	return true
}

func (m *told) feedBack() {
	m.x = m.in()
	if m.y == m.top {
		m.p.Down(m.top, m.bottom, 1, m.back())
	} else if m.y > 0 {
		m.y--
	}
}

func (m *told) print(r rune) {
	r, m.chars = m.chars.Map(r)
	m.printMapped(r)
}

func (m *told) printMapped(r rune) {
	w := width.Of(r)
	if w == 0 && m.x > 0 {
		m.p.Mark(m.y, m.x-1, r)
	}
	if w < 1 {
		return
	}
	room := m.cols() - m.x
	if room < w && !m.opts.Wrap {
		m.x = m.cols() - w
	} else if room < w {
		if room > 0 {
			m.p.Pad(m.y)
		}
		another := m.feed()
		m.x = 0
		if another {
			m.p.Wrap(m.y)
		}
	}
	if m.opts.Put {
		for range w {
			m.p.InsertCells(m.y, m.x, 1, m.back())
		}
	}
	m.p.Put(m.y, m.x, r, m.attr)
	m.x += w
	m.last = []rune{r}
}

func (m *told) repeat(n int) {
	cells := m.rows() * m.cols()
	for i := 0; len(m.last) > 0 && i < cells && i < times(n); i++ {
		m.printMapped(m.last[0])
	}
}

func (m *told) tab(n int) {
	for range apart(n) {
		x := m.in()
		if n > 0 {
			m.x = m.cols() - 1
			for _, stop := range slices.Backward(m.stops) {
				if stop > x {
					m.x = stop
				}
			}
			continue
		}
		m.x = 0
		for _, stop := range m.stops {
			if stop < x {
				m.x = stop
			}
		}
	}
}

func (m *told) move(y, x int) {
	if m.opts.Home {
		m.y = m.top + nearest(y, 0, m.bottom-m.top)
	} else {
		m.y = nearest(y, 0, m.rows()-1)
	}
	m.x = nearest(x, 0, m.cols()-1)
}

func (m *told) step(dy, dx int) {
	for range apart(dy) {
		switch {
		case dy > 0 && m.y != m.bottom && m.y != m.rows()-1:
			m.y++
		case dy < 0 && m.y != m.top && m.y != 0:
			m.y--
		}
	}
	m.x = m.in()
	for range apart(dx) {
		switch {
		case dx > 0 && m.x != m.cols()-1:
			m.x++
		case dx < 0 && m.x != 0:
			m.x--
		}
	}
}

func (m *told) margins(top, bottom int) {
	for y := range m.rows() {
		for z := range y {
			if z == top && y == bottom {
				m.top, m.bottom = top, bottom
				m.move(0, 0)
			}
		}
	}
}

func (m *told) eraseLine(k int) {
	switch k {
	case 0:
		m.p.Erase(m.y, m.in(), m.cols(), m.back())
	case 1:
		m.p.Erase(m.y, 0, m.in()+1, m.back())
	case 2:
		m.p.Erase(m.y, 0, m.cols(), m.back())
	}
}

func (m *told) erasePage(k int) {
	for y := range m.rows() {
		switch {
		case k == 0 && y == m.y, k == 1 && y == m.y:
			m.eraseLine(k)
		case k == 0 && y > m.y, k == 1 && y < m.y, k == 2:
			m.p.Erase(y, 0, m.cols(), m.back())
		}
	}
	if k == 3 {
		m.p.Forget()
	}
}

func (m *told) eraseChars(n int) {
	m.x = m.in()
	to := m.x
	for range times(n) {
		if to < m.cols() {
			to++
		}
	}
	m.p.Erase(m.y, m.x, to, m.back())
}

func (m *told) insertChars(n int) {
	m.x = m.in()
	for range times(n) {
		m.p.InsertCells(m.y, m.x, 1, m.back())
	}
}

func (m *told) deleteChars(n int) {
	m.x = m.in()
	for range times(n) {
		m.p.DeleteCells(m.y, m.x, 1, m.back())
	}
}

// inRegion tells whether there are lines to put in and to take out, and goes to their beginning.
func (m *told) inRegion() bool {
	if m.y < m.top || m.y > m.bottom {
		return false
	}
	m.x = 0
	return true
}

func (m *told) insertLines(n int) {
	if m.inRegion() {
		for range min(times(n), m.bottom-m.y+1) {
			m.p.Down(m.y, m.bottom, 1, m.back())
		}
	}
}

func (m *told) deleteLines(n int) {
	if m.inRegion() {
		for range min(times(n), m.bottom-m.y+1) {
			m.p.Cut(m.y, m.bottom, 1, m.back())
		}
	}
}

func (m *told) scroll(n int) {
	for range min(apart(n), m.bottom-m.top+1) {
		if n > 0 {
			m.p.Up(m.top, m.bottom, 1, m.back())
		} else {
			m.p.Down(m.top, m.bottom, 1, m.back())
		}
	}
}

func (m *told) keep() {
	m.kept = []toldKept{{m.y, m.in(), m.attr, m.chars, m.opts.Home}}
}

func (m *told) restore() {
	k := toldKept{chars: chars.New()}
	if len(m.kept) > 0 {
		k = m.kept[0]
	}
	m.y, m.x = nearest(k.y, 0, m.rows()-1), nearest(k.x, 0, m.cols()-1)
	m.attr, m.chars, m.opts.Home = k.attr, k.chars, k.home
}

func (m *told) fill() {
	for y := range m.rows() {
		m.p.Erase(y, 0, m.cols(), api.Color{})
		for x := range m.cols() {
			m.p.Put(y, x, 0x45, api.Attr{})
		}
	}
	m.top, m.bottom, m.y, m.x = 0, m.rows()-1, 0, 0
}

func (m *told) reset() {
	m.attr, m.chars, m.opts = api.Attr{}, chars.New(), api.Opts{Wrap: true}
	m.top, m.bottom, m.kept, m.last = 0, m.rows()-1, nil, nil
}

func (m *told) follow(o *told) {
	m.attr, m.chars, m.opts = o.attr, o.chars, o.opts
	m.y, m.x = nearest(o.y, 0, m.rows()-1), nearest(o.in(), 0, m.cols()-1)
}

func (m *told) turn(l [][]int) {
	m.attr = attr.Turn(m.attr, param.Clean(l))
}

// sized makes the region all rows, and the stops those of so many columns, of which there were some.
func (m *told) sized(had int) {
	m.top, m.bottom = 0, m.rows()-1
	var stops []int
	for x := range m.cols() {
		if x < had && slices.Contains(m.stops, x) || x >= had && x%8 == 0 {
			stops = append(stops, x)
		}
	}
	m.stops = stops
}

func (m *told) resize(rows, cols int, l []api.Pos) ([]api.Pos, api.Errno) {
	had := m.cols()
	at, places, e := m.p.Resize(rows, cols, api.Pos{Row: m.y, Col: m.x}, l...)
	if e == api.OK {
		m.y, m.x = at.Row, at.Col
		m.sized(had)
	}
	return places, e
}

func (m *told) crop(rows, cols int) api.Errno {
	had := m.cols()
	e := m.p.Crop(rows, cols)
	if e == api.OK {
		m.y, m.x = nearest(m.y, 0, m.rows()-1), nearest(m.x, 0, m.cols())
		m.sized(had)
	}
	return e
}
