package shift_test

import (
	"slices"

	"marquee/api"
)

// What the document's words make of places, told by rows that do come and go, so that nothing of the package's way is repeated.

// toldRows are a document's rows, of which some have a name.
type toldRows []string

const named = "the row of the place"

// rowsWith are so many rows, one of which is the place's.
func rowsWith(n, row int) toldRows {
	l := make(toldRows, n)
	l[row] = named
	return l
}

// come are the rows after a shift.
func (l toldRows) come(s api.Shift) toldRows {
	l = slices.Clone(l)
	switch s.Kind {
	case api.Insert:
		at := min(s.At, len(l))
		return slices.Concat(l[:at], make(toldRows, s.N), l[at:])
	case api.Evict:
		return l[min(s.N, len(l)):]
	}
	at := min(s.At, len(l))
	return slices.Concat(l[:at], l[min(at+s.N, len(l)):])
}

// toldMove is what a right shift makes of a right place, and whether its row goes.
func toldMove(p api.Pos, s api.Shift) (api.Pos, bool) {
	if row := slices.Index(rowsWith(p.Row+1, p.Row).come(s), named); row >= 0 {
		return api.Pos{Row: row, Col: p.Col}, false
	}
	if s.Kind == api.Evict {
		return api.Pos{}, true
	}
	return api.Pos{Row: s.At}, true
}
