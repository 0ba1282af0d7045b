package text_test

import (
	"unicode/utf8"

	"marquee/api"
)

// toldByte is a byte of a text, and its place.
type toldByte struct {
	c  byte
	at api.Pos
}

// toldCell is a cell, and its place.
type toldCell struct {
	c  api.Cell
	at api.Pos
}

// toldPart is a part's text, as the chapter's words say, one behind the other, of the whole document.
func toldPart(rows []api.Row, from, to api.Pos) []toldByte {
	var all []toldByte
	if from.Row < 0 {
		from = api.Pos{}
	}
	if !toldAhead(from, to) || from.Row >= len(rows) {
		return nil
	}
	for _, line := range toldLines(rows) {
		if last := line[len(line)-1]; last >= from.Row && line[0] <= to.Row {
			for _, c := range toldWritten(toldCells(rows, line, from, to)) {
				for _, b := range []byte(toldText(c.c)) {
					all = append(all, toldByte{b, c.at})
				}
			}
			if last < to.Row {
				all = append(all, toldByte{'\n', api.Pos{Row: last, Col: toldBehind(rows[last])}})
			}
		}
	}
	return all
}

// toldLines are the numbers of each line's rows.
func toldLines(rows []api.Row) [][]int {
	var l [][]int
	for i, r := range rows {
		if i == 0 || !r.Cont {
			l = append(l, nil)
		}
		l[len(l)-1] = append(l[len(l)-1], i)
	}
	return l
}

// toldCells are a line's cells from from on, ahead of to, without Pads.
func toldCells(rows []api.Row, line []int, from, to api.Pos) []toldCell {
	var l []toldCell
	for _, i := range line {
		for n, c := range rows[i].Cells {
			at := api.Pos{Row: i, Col: n}
			if c.Half == api.Pad || toldAhead(at, from) || !toldAhead(at, to) {
				continue
			}
			l = append(l, toldCell{c, at})
		}
	}
	return l
}

// toldWritten are cells without those at the end in which nothing was written.
func toldWritten(l []toldCell) []toldCell {
	if len(l) > 0 && l[len(l)-1].c.R == 0 {
		return toldWritten(l[:len(l)-1])
	}
	return l
}

// toldText is the text of a cell.
func toldText(c api.Cell) string {
	if c.Half == api.Right {
		return ""
	}
	if c.R == 0 {
		return "\x20"
	}
	if !utf8.ValidRune(c.R) {
		return c.More
	}
	return string([]rune{c.R}) + c.More
}

// toldBehind is the column behind the last cell that isn't a Pad.
func toldBehind(r api.Row) int {
	col := 0
	for i, c := range r.Cells {
		if c.Half != api.Pad {
			col = i + 1
		}
	}
	return col
}

func toldAhead(a, b api.Pos) bool {
	if a.Row == b.Row {
		return a.Col < b.Col
	}
	return a.Row < b.Row
}

// toldSplit is a text's lines.
func toldSplit(s string) []string {
	var l []string
	line := ""
	for _, c := range []byte(s) {
		if c == '\n' {
			l = append(l, line)
			line = ""
		} else {
			line += string([]byte{c})
		}
	}
	if line != "" {
		l = append(l, line)
	}
	return l
}
