package cells_test

import (
	"slices"

	"marquee/api"
	"marquee/utf"
	"marquee/width"
)

// What the document's words make of rows, told cell by cell, so that nothing of the package's way is repeated.

// half is a cell that is another half.
func half(c api.Cell, h int) api.Cell {
	c.Half = h
	return c
}

func toldStays(row []api.Cell, i int) bool {
	c := row[i]
	switch c.Half {
	case api.Plain:
		return true
	case api.Pad:
		return i == len(row)-1
	case api.Left:
		return i < len(row)-1 && row[i+1] == half(c, api.Right)
	case api.Right:
		return i > 0 && row[i-1] == half(c, api.Left)
	}
	return false
}

func toldMend(row []api.Cell) []api.Cell {
	var l []api.Cell
	for i, c := range row {
		if toldStays(row, i) {
			l = append(l, c)
		} else {
			l = append(l, api.Cell{Attr: c.Attr})
		}
	}
	return l
}

func toldBlanks(n int, back api.Color) []api.Cell {
	return slices.Repeat([]api.Cell{{Attr: api.Attr{Back: back}}}, n)
}

func toldPut(row []api.Cell, x int, r rune, a api.Attr) []api.Cell {
	l := toldMend(row)
	if x < 0 || x >= len(l) {
		return l
	}
	if width.Of(r) == 1 {
		l[x] = api.Cell{R: r, Attr: a}
	}
	if width.Of(r) == 2 && x < len(l)-1 {
		l[x] = api.Cell{R: r, Half: api.Left, Attr: a}
		l[x+1] = api.Cell{R: r, Half: api.Right, Attr: a}
	}
	return toldMend(l)
}

func toldMark(row []api.Cell, x int, r rune) []api.Cell {
	l := toldMend(row)
	if x < 0 || x >= len(l) || l[x].R == 0 || width.Of(r) != 0 {
		return l
	}
	more := l[x].More + utf.Put(r)
	if len(more) > 32 {
		return l
	}
	other := map[int]int{api.Left: 1, api.Right: -1}[l[x].Half]
	l[x].More = more
	l[x+other].More = more
	return toldMend(l)
}

func toldClose(row []api.Cell) []api.Cell {
	l := toldMend(row)
	if len(l) > 0 {
		l = append(l[:len(l)-1], api.Cell{Half: api.Pad})
	}
	return toldMend(l)
}

func toldErase(row []api.Cell, from, to int, back api.Color) []api.Cell {
	l := toldMend(row)
	for i := range l {
		if from <= i && i < to {
			l[i] = toldBlanks(1, back)[0]
		}
	}
	return toldMend(l)
}

func toldInsert(row []api.Cell, x, n int, back api.Color) []api.Cell {
	l := toldMend(row)
	if x < 0 || x >= len(l) || n < 1 {
		return l
	}
	l = slices.Insert(l, x, toldBlanks(min(n, len(row)), back)...)
	return toldMend(l[:len(row)])
}

func toldDelete(row []api.Cell, x, n int, back api.Color) []api.Cell {
	l := toldMend(row)
	if x < 0 || x >= len(l) || n < 1 {
		return l
	}
	n = min(n, len(l)-x)
	return toldMend(append(slices.Delete(l, x, x+n), toldBlanks(n, back)...))
}

func toldUsed(row []api.Cell) int {
	n := 0
	for i, c := range row {
		if c.R != 0 {
			n = i + 1
		}
	}
	return n
}

func toldText(row []api.Cell) string {
	var b []byte
	for i, c := range row {
		switch {
		case i >= toldUsed(row), c.Half == api.Right, c.Half == api.Pad:
		case c.R == 0:
			b = append(b, ' ')
		default:
			b = append(b, utf.Put(c.R)+c.More...)
		}
	}
	return string(b)
}
