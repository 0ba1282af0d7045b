package page_test

import (
	"slices"

	"marquee/api"
	"marquee/cells"
	"marquee/flow"
)

// What the document's words make of a page, told as one list of rows, so that nothing of the package's way is repeated.
type told struct {
	doc              []api.Row
	rows, cols, room int
	gone             uint64
	shifts           []api.Shift
}

func newTold(rows, cols, room int) *told {
	m := &told{rows: rows, cols: cols, room: room}
	for range rows {
		m.doc = append(m.doc, toldRow(cols, api.Color{}))
	}
	return m
}

func toldRow(cols int, back api.Color) api.Row {
	return api.Row{Cells: slices.Repeat([]api.Cell{{Attr: api.Attr{Back: back}}}, cols)}
}

// base is the row of the document with which the screen begins.
func (m *told) base() int {
	return len(m.doc) - m.rows
}

// on does something to the cells of a row of the screen.
func (m *told) on(y int, do func(row []api.Cell) []api.Cell) {
	if y >= 0 && y < m.rows {
		row := &m.doc[m.base()+y]
		row.Cells = do(row.Cells)
	}
}

// cont makes a row of the document Cont, or not, if there is such a row on the screen.
func (m *told) cont(i int, on bool) {
	if i >= m.base() && i < len(m.doc) {
		m.doc[i].Cont = on
	}
}

func (m *told) erase(y, from, to int, back api.Color) {
	if y < 0 || y >= m.rows {
		return
	}
	m.on(y, func(row []api.Cell) []api.Cell { return cells.Erase(row, from, to, back) })
	first, last := from <= 0 && 0 < to, from <= m.cols-1 && m.cols-1 < to
	if last {
		m.cont(m.base()+y+1, false)
	}
	if last && first {
		m.cont(m.base()+y, false)
	}
}

func (m *told) insert(i int, back api.Color) {
	m.doc = slices.Insert(m.doc, i, toldRow(m.cols, back))
	m.shifts = append(m.shifts, api.Shift{Kind: api.Insert, At: i, N: 1})
}

func (m *told) remove(i int) {
	m.doc = slices.Delete(m.doc, i, i+1)
	m.shifts = append(m.shifts, api.Shift{Kind: api.Delete, At: i, N: 1})
}

// evict lets the eldest rows go.
func (m *told) evict(n int) {
	if n > 0 {
		m.doc = m.doc[n:]
		m.gone += uint64(n)
		m.shifts = append(m.shifts, api.Shift{Kind: api.Evict, N: n})
	}
}

func (m *told) isRegion(top, bottom int) bool {
	return top >= 0 && top < m.rows && bottom >= 0 && bottom < m.rows && top <= bottom
}

func (m *told) up(top, bottom, n int, back api.Color) {
	for i := 0; m.isRegion(top, bottom) && i < n && i <= bottom-top; i++ {
		if top > 0 {
			m.cut(top, bottom, 1, back)
			continue
		}
		behind := m.base() + bottom + 1
		m.insert(behind, back)
		m.cont(behind+1, false)
		m.evict(m.base() - m.room)
	}
}

func (m *told) cut(top, bottom, n int, back api.Color) {
	for i := 0; m.isRegion(top, bottom) && i < n && i <= bottom-top; i++ {
		b := m.base()
		m.remove(b + top)
		m.insert(b+bottom, back)
		m.cont(b+top, false)
		m.cont(b+bottom+1, false)
	}
}

func (m *told) down(top, bottom, n int, back api.Color) {
	for i := 0; m.isRegion(top, bottom) && i < n && i <= bottom-top; i++ {
		b := m.base()
		m.remove(b + bottom)
		m.insert(b+top, back)
		m.cont(b+top+1, false)
		m.cont(b+bottom+1, false)
	}
}

func (m *told) forget() {
	if n := m.base(); n > 0 {
		m.evict(n)
		m.cont(0, false)
	}
}

func (m *told) isSize(rows, cols int) bool {
	return rows >= 1 && rows <= 1000 && cols >= 2 && cols <= 1000
}

func toldBring(n, least, most int) int {
	switch {
	case n < least:
		return least
	case n > most:
		return most
	}
	return n
}

func isUnused(row api.Row) bool {
	for _, c := range row.Cells {
		if c.R != 0 {
			return false
		}
	}
	return true
}

func (m *told) resize(rows, cols int, at api.Pos, l []api.Pos) (api.Pos, []api.Pos, api.Errno) {
	if !m.isSize(rows, cols) {
		return api.Pos{}, nil, api.ErrArg
	}
	at = api.Pos{Row: m.base() + toldBring(at.Row, 0, m.rows-1), Col: toldBring(at.Col, 0, m.cols)}
	l = slices.Clone(l)
	if cols != m.cols {
		was := m.doc
		m.doc, l = flow.Reflow(was, cols, l...)
		_, one := flow.Reflow(was, cols, at)
		at = one[0]
	}
	for at.Row < len(m.doc)-1 && isUnused(m.doc[len(m.doc)-1]) {
		m.doc = m.doc[:len(m.doc)-1]
	}
	begin := toldBring(len(m.doc)-rows, 0, at.Row)
	for len(m.doc) > begin+rows {
		m.doc = m.doc[:len(m.doc)-1]
	}
	for len(m.doc) < begin+rows {
		m.doc = append(m.doc, toldRow(cols, api.Color{}))
	}
	for i := range l {
		if l[i].Row >= len(m.doc) {
			l[i] = api.Pos{Row: len(m.doc)}
		}
	}
	m.rows, m.cols, m.shifts = rows, cols, nil
	m.evict(begin - m.room)
	return api.Pos{Row: at.Row - begin, Col: at.Col}, l, api.OK
}

func (m *told) crop(rows, cols int) api.Errno {
	if !m.isSize(rows, cols) {
		return api.ErrArg
	}
	m.gone += uint64(m.base())
	var doc []api.Row
	for y := range rows {
		row := toldRow(cols, api.Color{})
		if y < m.rows {
			for x := 0; x < cols && x < m.cols; x++ {
				row.Cells[x] = m.doc[m.base()+y].Cells[x]
			}
		}
		doc = append(doc, api.Row{Cells: cells.Mend(row.Cells)})
	}
	m.doc, m.rows, m.cols, m.shifts = doc, rows, cols, nil
	return api.OK
}
