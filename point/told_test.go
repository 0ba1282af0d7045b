package point_test

import (
	"slices"

	"marquee/api"
)

// What the document's words make of points and shifts, sentence by sentence, without layer 10.

// farthest is the greatest row and column of a right place, 2^40.
const farthest = 1099511627776

// toldStore is points, the eldest first.
type toldStore struct {
	most   int
	points []api.Pos
}

func isRight(p api.Pos) bool {
	return p.Row >= 0 && p.Col >= 0 && p.Row <= farthest && p.Col <= farthest
}

func isAhead(a, b api.Pos) bool {
	if a.Row == b.Row {
		return a.Col < b.Col
	}
	return a.Row < b.Row
}

func (m *toldStore) add(at api.Pos) {
	if !isRight(at) {
		return
	}
	m.points = append(m.points, at)
	if len(m.points) > m.most {
		m.points = slices.Delete(m.points, 0, 1)
	}
}

func isRightShift(x api.Shift) bool {
	return (x.Kind == api.Insert || x.Kind == api.Delete || x.Kind == api.Evict) && x.At >= 0 && x.At <= farthest && x.N >= 1 && x.N <= farthest
}

func (m *toldStore) shift(x api.Shift) {
	if !isRightShift(x) {
		return
	}
	var l []api.Pos
	for _, p := range m.points {
		switch {
		case !isRight(p): // it stays
		case x.Kind == api.Insert && p.Row >= x.At:
			p.Row += x.N
		case x.Kind == api.Delete && p.Row >= x.At+x.N:
			p.Row -= x.N
		case x.Kind == api.Delete && p.Row >= x.At:
			p = api.Pos{Row: x.At}
		case x.Kind == api.Evict && p.Row >= x.N:
			p.Row -= x.N
		case x.Kind == api.Evict:
			continue
		}
		l = append(l, p)
	}
	m.points = l
}

func (m *toldStore) put(l []api.Pos) api.Errno {
	for _, p := range l {
		if !isRight(p) {
			return api.ErrArg
		}
	}
	if len(l) != len(m.points) {
		return api.ErrArg
	}
	m.points = slices.Clone(l)
	return api.OK
}

// list takes the first one out of those that are left, again and again.
func (m *toldStore) list() []api.Pos {
	var l []api.Pos
	for rest := slices.Clone(m.points); len(rest) > 0; {
		first := 0
		for i, p := range rest {
			if isAhead(p, rest[first]) {
				first = i
			}
		}
		l = append(l, rest[first])
		rest = slices.Delete(rest, first, first+1)
	}
	return l
}

func (m *toldStore) next(from api.Pos) (api.Pos, bool) {
	for _, p := range m.list() {
		if isAhead(from, p) {
			return p, true
		}
	}
	return api.Pos{}, false
}

func (m *toldStore) ahead(from api.Pos) (api.Pos, bool) {
	for _, p := range slices.Backward(m.list()) {
		if isAhead(p, from) {
			return p, true
		}
	}
	return api.Pos{}, false
}
