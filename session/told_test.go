package session_test

import (
	"slices"
	"strings"

	"marquee/api"
	"marquee/block"
	"marquee/point"
	"marquee/term"
	"marquee/text"
)

// told is what the document's words make of a session. The terminal, the stores and the texts are the layers' own; bytes come one by one, and all else is told of all rows and all blocks, sentence by sentence.
type told struct {
	x       *term.Term
	blocks  *block.Store
	points  *point.Store
	folded  []uint64 // also of blocks that have gone
	top     int
	follows bool
}

func newTold(c api.Config) *told {
	m := &told{follows: true}
	m.x, _ = term.New(c.Rows, c.Cols, c.Lines, c.Payload)
	m.blocks, _ = block.New(c.Blocks)
	m.points, _ = point.New(c.Marks)
	return m
}

func (m *told) feed(all string) {
	for i := range len(all) {
		m.x.Feed([]byte{all[i]})
		m.come()
	}
}

// come lets the terminal's changes come.
func (m *told) come() {
	for _, c := range m.x.Changes() {
		if c.Told && c.Signal.Sign.Kind == api.SignPoint {
			m.points.Add(c.Signal.At)
		} else if c.Told {
			m.blocks.Take(c.Signal.Sign, c.Signal.At)
		} else {
			m.points.Shift(c.Shift)
			m.blocks.Shift(c.Shift)
		}
	}
}

func (m *told) size(rows, cols int) api.Errno {
	var all []api.Pos
	all = append(all, m.points.Places()...)
	all = append(all, m.blocks.Places()...)
	all, e := m.x.Resize(rows, cols, all...)
	if e != api.OK {
		return e
	}
	if m.points.Put(all[:m.points.Len()]...) != api.OK || m.blocks.Put(all[m.points.Len():]...) != api.OK {
		panic("the places aren't right any more")
	}
	m.come()
	return api.OK
}

func (m *told) rows() []api.Row {
	return m.x.First().Page().All()
}

func (m *told) end() api.Pos {
	return pos(len(m.rows()), 0)
}

func (m *told) list() []api.Block {
	return m.blocks.List(m.end())
}

// block is the block of a number in the list.
func (m *told) block(id uint64) *api.Block {
	for _, b := range m.list() {
		if b.Id == id {
			return &b
		}
	}
	return nil
}

func (m *told) fold(id uint64, on bool) api.Errno {
	if id == 0 || m.block(id) == nil {
		return api.ErrNone
	}
	m.folded = slices.DeleteFunc(m.folded, func(f uint64) bool { return f == id })
	if on {
		m.folded = append(m.folded, id)
	}
	return api.OK
}

func (m *told) foldedOnes() []uint64 {
	var l []uint64
	for _, b := range m.list() {
		if slices.Contains(m.folded, b.Id) {
			l = append(l, b.Id)
		}
	}
	return l
}

// items tells of each row whether a fold hides it; of a fold that isn't apart from the one ahead that stayed it is none.
func (m *told) items() []api.Item {
	by := make([]uint64, len(m.rows()))
	for _, b := range m.list() {
		if !slices.Contains(m.folded, b.Id) {
			continue
		}
		var l []int
		for row := range by {
			if (row > b.Output.Row || row == b.Output.Row && b.Output.Col == 0) && row < b.Done.Row {
				l = append(l, row)
			}
		}
		if len(l) == 0 || by[l[0]] != 0 {
			continue
		}
		for _, row := range l {
			by[row] = b.Id
		}
	}
	var items []api.Item
	for row, id := range by {
		if id != 0 && row > 0 && by[row-1] == id {
			items[len(items)-1].Hidden++
			continue
		}
		x := api.Item{Row: row, Id: id}
		if id != 0 {
			x.Hidden = 1
		}
		items = append(items, x)
	}
	return items
}

// tops are the greatest top, and the one from which the window shows.
func (m *told) tops() (greatest, shows int) {
	greatest = len(m.items()) - m.x.Screen().Page().Rows()
	if greatest < 0 {
		greatest = 0
	}
	shows = m.top
	if m.follows || shows > greatest {
		shows = greatest
	}
	return greatest, shows
}

func (m *told) view() ([]api.Item, int) {
	_, at := m.tops()
	var l []api.Item
	for i, x := range m.items() {
		if i >= at && len(l) < m.x.Screen().Page().Rows() {
			l = append(l, x)
		}
	}
	return l, at
}

func (m *told) shown() []api.Row {
	if m.x.Other() {
		return m.x.Screen().Page().All()
	}
	var l []api.Row
	seen, _ := m.view()
	for _, x := range seen {
		if x.Id == 0 {
			l = append(l, m.rows()[x.Row])
			continue
		}
		var zero api.Row
		for range m.x.Screen().Page().Cols() {
			zero.Cells = append(zero.Cells, api.Cell{})
		}
		l = append(l, zero)
	}
	return l
}

func (m *told) turn(top int) {
	greatest, _ := m.tops()
	switch {
	case top < 0:
		top = 0
	case top > greatest:
		top = greatest
	}
	m.top, m.follows = top, top == greatest
}

func (m *told) scroll(n int) {
	switch {
	case n > 1<<40:
		n = 1 << 40
	case n < -1<<40:
		n = -1 << 40
	}
	_, at := m.tops()
	m.turn(at - n)
}

// jump goes to rows in which something is, n times the next one or the one ahead.
func (m *told) jump(n int, is func(row int) bool) api.Errno {
	seen, _ := m.view()
	at, found := seen[0].Row, false
	for n != 0 {
		step := 1
		if n < 0 {
			step = -1
		}
		row := at + step
		for row >= 0 && row <= len(m.rows()) && !is(row) {
			row += step
		}
		if row < 0 || row > len(m.rows()) {
			break
		}
		at, found = row, true
		n -= step
	}
	if !found {
		return api.ErrNone
	}
	for i, x := range m.items() {
		if x.Row == at || x.Id != 0 && x.Row < at && at < x.Row+x.Hidden {
			m.turn(i)
			return api.OK
		}
	}
	return api.ErrNone
}

func (m *told) jumpTo(n, kind int) api.Errno {
	return m.jump(n, func(row int) bool {
		for _, b := range m.list() {
			if b.Id == 0 {
				continue
			}
			hasOutput := b.Phase == api.Output || b.Phase == api.Ended
			if kind == 0 && b.Start.Row == row || kind == 1 && hasOutput && b.Output.Row == row || kind == 2 && b.Has && b.Code != 0 && b.Start.Row == row {
				return true
			}
		}
		return false
	})
}

func (m *told) visit(n int) api.Errno {
	return m.jump(n, func(row int) bool {
		return slices.ContainsFunc(m.points.Places(), func(p api.Pos) bool { return p.Row == row })
	})
}

func (m *told) copied(id uint64, part int) (string, bool, api.Errno) {
	b := m.block(id)
	if b == nil {
		return "", false, api.ErrNone
	}
	if part < 0 || part > 3 {
		return "", false, api.ErrArg
	}
	from := [...]api.Pos{b.Start, b.Start, b.Input, b.Output}[part]
	to := [...]api.Pos{b.Stop, b.Input, b.Output, b.Done}[part]
	got := text.Of(m.rows(), from, to)
	for to == m.end() && strings.HasSuffix(got, "\n") {
		got = got[:len(got)-1]
	}
	return got, b.Cut, api.OK
}

func (m *told) find(needle string, id int) ([]api.Pos, api.Errno) {
	if needle == "" {
		return nil, api.ErrArg
	}
	from, to := pos(0, 0), m.end()
	if id != -1 {
		b := m.block(uint64(id))
		if id < 0 || b == nil {
			return nil, api.ErrNone
		}
		from, to = b.Start, b.Stop
	}
	var l []api.Pos
	all, places := text.Of(m.rows(), from, to), text.Places(m.rows(), from, to)
	for i := range len(all) {
		if strings.HasPrefix(all[i:], needle) {
			l = append(l, places[i])
		}
	}
	return l, api.OK
}
