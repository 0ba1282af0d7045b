package page

import (
	"slices"

	"marquee/api"
	"marquee/cells"
	"marquee/flow"
)

// Resize makes the page another size.
func (p *Page) Resize(rows, cols int, at api.Pos, l ...api.Pos) (api.Pos, []api.Pos, api.Errno) {
	if p == nil || !isSize(rows, cols) {
		return api.Pos{}, nil, api.ErrArg
	}
	doc, places := p.reflowed(cols, append([]api.Pos{p.inDocument(at)}, l...)...)
	at, places = places[0], places[1:]
	doc = withoutUnused(doc, at.Row)
	base := max(min(at.Row, len(doc)-rows), 0)
	doc = toLength(doc, base+rows, cols)

	p.shifts = nil
	if n := p.history.Fill(doc[:base]...); n > 0 {
		p.tell(api.Evict, 0, n)
	}
	p.screen, p.cols = slices.Clone(doc[base:]), cols // a copy, since the slice would keep the rows ahead of it
	at.Row -= base
	return at, within(places, len(doc)), api.OK
}

// Crop makes the screen another size, and lets the history go.
func (p *Page) Crop(rows, cols int) api.Errno {
	if p == nil || !isSize(rows, cols) {
		return api.ErrArg
	}
	p.history.Clear()
	p.shifts = nil
	p.screen, p.cols = toLength(p.screen, rows, cols), cols
	for i, row := range p.screen {
		p.screen[i] = api.Row{Cells: toWidth(row.Cells, cols)}
	}
	return api.OK
}

// inDocument is the place of the document that a place of the screen, or the nearest one of it, is.
func (p *Page) inDocument(at api.Pos) api.Pos {
	y := max(min(at.Row, p.Rows()-1), 0)
	return api.Pos{Row: p.Base() + y, Col: max(min(at.Col, p.cols), 0)}
}

// reflowed is the document with so many columns, and where places are then. Of as many as it has, neither is changed.
func (p *Page) reflowed(cols int, l ...api.Pos) ([]api.Row, []api.Pos) {
	if cols == p.cols {
		return p.All(), l
	}
	return flow.Reflow(p.All(), cols, l...)
}

// withoutUnused is a document without those rows at its end that are behind a row, and in which nothing was written.
func withoutUnused(doc []api.Row, last int) []api.Row {
	n := len(doc)
	for n > last+1 && cells.Used(doc[n-1].Cells) == 0 {
		n--
	}
	return doc[:n]
}

// within are places of a document of so many rows: where one's row isn't there, it is the row behind the last.
func within(l []api.Pos, rows int) []api.Pos {
	for i, at := range l {
		if at.Row >= rows {
			l[i] = api.Pos{Row: rows}
		}
	}
	return l
}

// toLength are n rows: the first ones of some, and zero rows behind them.
func toLength(rows []api.Row, n, cols int) []api.Row {
	l := make([]api.Row, n)
	for i := copy(l, rows); i < n; i++ {
		l[i].Cells = make([]api.Cell, cols)
	}
	return l
}

// toWidth is a row of so many cells: the first ones of another, and zero cells behind them. It is mended, since a cell may have lost its other half, and a Pad may not be the last one any more.
func toWidth(row []api.Cell, cols int) []api.Cell {
	l := make([]api.Cell, cols)
	copy(l, row)
	return cells.Mend(l)
}

// isSize tells whether a screen may have so many rows and columns.
func isSize(rows, cols int) bool {
	return 1 <= rows && rows <= api.MaxSide && api.MinCols <= cols && cols <= api.MaxSide
}
