package flow_test

import (
	"marquee/api"
	"marquee/cells"
)

// What the document's words make of rows, told cell by cell, so that nothing of the package's way is repeated.

// toldLines tells where lines begin and end.
func toldLines(rows []api.Row) [][2]int {
	var l [][2]int
	for i, row := range rows {
		if i == 0 || !row.Cont {
			l = append(l, [2]int{i, i})
		}
		l[len(l)-1][1]++
	}
	return l
}

// toldOwn are a row's cells that aren't Pads.
func toldOwn(row api.Row) []api.Cell {
	var l []api.Cell
	for _, c := range row.Cells {
		if c.Half != api.Pad {
			l = append(l, c)
		}
	}
	return l
}

// toldFlow is the flow of rows.
func toldFlow(rows []api.Row) []api.Cell {
	var l []api.Cell
	for _, row := range rows {
		l = append(l, toldOwn(row)...)
	}
	l = cells.Mend(l)
	for len(l) > 0 && l[len(l)-1].R == 0 {
		l = l[:len(l)-1]
	}
	return l
}

// toldSplit is a flow, laid cell by cell.
func toldSplit(flow []api.Cell, cols int) []api.Row {
	var l []api.Cell
	for _, c := range flow {
		if c.Half == api.Pad {
			c = api.Cell{Attr: c.Attr}
		}
		l = append(l, c)
	}
	rows := []api.Row{{}}
	lay := func(c api.Cell) {
		if len(rows[len(rows)-1].Cells) == cols {
			rows = append(rows, api.Row{Cont: true})
		}
		last := &rows[len(rows)-1]
		last.Cells = append(last.Cells, c)
	}
	for _, c := range cells.Mend(l) {
		if c.Half == api.Left && len(rows[len(rows)-1].Cells) == cols-1 {
			lay(api.Cell{Half: api.Pad})
		}
		lay(c)
	}
	for len(rows[len(rows)-1].Cells) < cols {
		lay(api.Cell{})
	}
	return rows
}

// toldOffset counts cells one by one up to a place.
func toldOffset(rows []api.Row, at api.Pos) int {
	n := 0
	for i, row := range rows {
		for k := range toldOwn(row) {
			if i < at.Row || i == at.Row && k < at.Col {
				n++
			}
		}
	}
	return n
}

// toldPlace goes on, cell by cell, as far as the offset is.
func toldPlace(rows []api.Row, off int) api.Pos {
	var p api.Pos
	for i, row := range rows {
		p = api.Pos{Row: i}
		for range toldOwn(row) {
			if off <= 0 {
				return p
			}
			off--
			p.Col++
		}
	}
	return p
}

// toldReflow is rows of another width, line by line, and each place by itself.
func toldReflow(rows []api.Row, cols int, l []api.Pos) ([]api.Row, []api.Pos) {
	var anew []api.Row
	places := make([]api.Pos, len(l))
	for _, x := range toldLines(rows) {
		was := rows[x[0]:x[1]]
		is := toldSplit(toldFlow(was), cols)
		for i, at := range l {
			if at.Row < x[0] || at.Row >= x[1] {
				continue
			}
			p := toldPlace(is, toldOffset(was, api.Pos{Row: at.Row - x[0], Col: at.Col}))
			places[i] = api.Pos{Row: len(anew) + p.Row, Col: p.Col}
		}
		anew = append(anew, is...)
	}
	for i, at := range l {
		if at.Row >= len(rows) {
			places[i] = api.Pos{Row: len(anew)}
		}
	}
	return anew, places
}
