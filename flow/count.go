package flow

import (
	"sort"

	"marquee/api"
)

// count tells of each of some rows how many cells that aren't Pads stand ahead of it, and, last, how many all rows have. With it, the cells are gone through once, however many places are looked for.
type count []int

func countOf(rows []api.Row) count {
	c := make(count, len(rows)+1)
	for i, row := range rows {
		c[i+1] = c[i]
		for _, x := range row.Cells {
			if !isPad(x) {
				c[i+1]++
			}
		}
	}
	return c
}

// rows is how many rows were counted.
func (c count) rows() int {
	return len(c) - 1
}

// offset is a place's offset in the rows.
func (c count) offset(at api.Pos) int {
	switch {
	case at.Row < 0:
		return 0
	case at.Row >= c.rows():
		return c[c.rows()]
	}
	own := c[at.Row+1] - c[at.Row]
	return c[at.Row] + min(max(at.Col, 0), own)
}

// place is an offset's place in the rows.
func (c count) place(off int) api.Pos {
	n := c.rows()
	if n == 0 {
		return api.Pos{}
	}
	off = min(max(off, 0), c[n])
	row := sort.Search(n-1, func(i int) bool { return c[i+1] > off })
	return api.Pos{Row: row, Col: off - c[row]}
}

// line is where a line begins, and what is counted of its rows.
type line struct {
	first int
	count count
}

func linesOf(rows []api.Row) []line {
	var l []line
	for _, x := range Lines(rows) {
		l = append(l, line{x[0], countOf(rows[x[0]:x[1]])})
	}
	return l
}

// moved are places of rows as places of the same lines' new rows.
func moved(rows, anew []api.Row, l []api.Pos) []api.Pos {
	was, is := linesOf(rows), linesOf(anew)
	places := make([]api.Pos, len(l))
	for i, at := range l {
		switch {
		case at.Row >= len(rows):
			places[i] = api.Pos{Row: len(anew)}
		case at.Row >= 0:
			behind := sort.Search(len(was), func(n int) bool { return was[n].first > at.Row })
			places[i] = was[behind-1].to(is[behind-1], at)
		}
	}
	return places
}

// to is a place in a line as one in what that line has become.
func (x line) to(y line, at api.Pos) api.Pos {
	at.Row -= x.first
	p := y.count.place(x.count.offset(at))
	p.Row += y.first
	return p
}
