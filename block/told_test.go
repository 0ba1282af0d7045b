package block_test

import (
	"slices"

	"marquee/api"
)

// What the document's words make of signs and shifts, sentence by sentence, without layer 10.

// farthest is the greatest row and column of a right place, 2^40.
const farthest = 1099511627776

// toldBlock is a block, whose places are nil till they are reached.
type toldBlock struct {
	id                         uint64
	phase                      int
	start, input, output, done *api.Pos
	code                       int
	has, cut                   bool
	dir, line                  string
}

// toldStore is a store.
type toldStore struct {
	most   int
	ever   uint64
	dir    string
	blocks []*toldBlock
}

func isRight(p api.Pos) bool {
	return p.Row >= 0 && p.Col >= 0 && p.Row <= farthest && p.Col <= farthest
}

func isAhead(a, b api.Pos) bool {
	if a.Row == b.Row {
		return a.Col < b.Col
	}
	return a.Row < b.Row
}

// places are those that were reached.
func (b *toldBlock) places() []*api.Pos {
	l := []*api.Pos{b.start, b.input, b.output, b.done}
	if i := slices.Index(l, nil); i >= 0 {
		return l[:i]
	}
	return l
}

func (b *toldBlock) last() api.Pos {
	l := b.places()
	return *l[len(l)-1]
}

// set sets the places that are nil.
func set(at api.Pos, l ...**api.Pos) {
	for _, p := range l {
		if *p == nil {
			*p = new(at)
		}
	}
}

func (m *toldStore) newest() *toldBlock {
	if len(m.blocks) == 0 {
		return &toldBlock{} // of no phase that a block has
	}
	return m.blocks[len(m.blocks)-1]
}

func (m *toldStore) add(phase int) *toldBlock {
	m.ever++
	b := &toldBlock{id: m.ever, phase: phase, dir: m.dir}
	m.blocks = append(m.blocks, b)
	return b
}

func (m *toldStore) take(x api.Sign, at api.Pos) {
	if !isRight(at) {
		return
	}
	b := m.newest()
	if len(m.blocks) > 0 && isAhead(at, b.last()) {
		at = b.last()
	}
	switch x.Kind {
	case api.SignPrompt:
		set(at, &m.add(api.Prompt).start)
	case api.SignInput:
		if b.phase != api.Prompt {
			b = m.add(api.Input)
		}
		b.phase = api.Input
		set(at, &b.start, &b.input)
	case api.SignOutput:
		if b.phase != api.Prompt && b.phase != api.Input {
			b = m.add(api.Output)
		}
		b.phase = api.Output
		set(at, &b.start, &b.input, &b.output)
	case api.SignDone:
		if b.phase == api.Prompt || b.phase == api.Input || b.phase == api.Output {
			b.phase, b.code, b.has = api.Ended, x.Code, x.Has
			set(at, &b.start, &b.input, &b.output, &b.done)
		}
	case api.SignLine:
		if b.phase == api.Prompt || b.phase == api.Input || b.phase == api.Output {
			b.line = x.Text
		}
	case api.SignDir:
		m.dir = x.Text
		if b.phase == api.Prompt || b.phase == api.Input {
			b.dir = x.Text
		}
	}
	if len(m.blocks) > m.most {
		m.blocks = m.blocks[1:]
	}
}

// toldMove is what a right shift makes of a place.
func toldMove(p api.Pos, x api.Shift) api.Pos {
	if !isRight(p) {
		return p
	}
	if x.Kind == api.Evict {
		x.Kind, x.At = api.Delete, 0
	}
	switch {
	case p.Row < x.At:
	case x.Kind == api.Insert:
		p.Row += x.N
	case p.Row >= x.At+x.N:
		p.Row -= x.N
	default:
		p = api.Pos{Row: x.At}
	}
	return p
}

func isRightShift(x api.Shift) bool {
	return (x.Kind == api.Insert || x.Kind == api.Delete || x.Kind == api.Evict) && x.At >= 0 && x.At <= farthest && x.N >= 1 && x.N <= farthest
}

func (m *toldStore) shift(x api.Shift) {
	if !isRightShift(x) {
		return
	}
	if x.Kind == api.Evict {
		for len(m.blocks) >= 2 {
			first, second := *m.blocks[0].start, *m.blocks[1].start
			if first.Row >= x.N || isAhead(api.Pos{Row: x.N}, second) {
				break
			}
			m.blocks = m.blocks[1:]
		}
		for _, b := range m.blocks {
			b.cut = b.cut || b.start.Row < x.N
		}
	}
	for _, b := range m.blocks {
		for _, p := range b.places() {
			*p = toldMove(*p, x)
		}
	}
}

func (m *toldStore) places() []api.Pos {
	var l []api.Pos
	for _, b := range m.blocks {
		for _, p := range b.places() {
			l = append(l, *p)
		}
	}
	return l
}

func (m *toldStore) put(l []api.Pos) api.Errno {
	if len(l) != len(m.places()) {
		return api.ErrArg
	}
	for i, p := range l {
		if !isRight(p) {
			return api.ErrArg
		}
		if i > 0 && isAhead(p, l[i-1]) {
			return api.ErrArg
		}
	}
	i := 0
	for _, b := range m.blocks {
		for _, p := range b.places() {
			*p = l[i]
			i++
		}
	}
	return api.OK
}

func (m *toldStore) list(end api.Pos) []api.Block {
	if len(m.blocks) > 0 && isAhead(end, m.newest().last()) {
		end = m.newest().last()
	}
	starts := make([]api.Pos, 0, len(m.blocks)+1)
	for _, b := range m.blocks {
		starts = append(starts, *b.start)
	}
	starts = append(starts, end)
	to := starts[0]
	l := []api.Block{{Input: to, Output: to, Done: to, Stop: to}}
	for i, b := range m.blocks {
		x := api.Block{Id: b.id, Phase: b.phase, Stop: starts[i+1], Code: b.code, Has: b.has, Cut: b.cut, Dir: b.dir, Line: b.line}
		at := []*api.Pos{&x.Start, &x.Input, &x.Output, &x.Done}
		for _, p := range at {
			*p = x.Stop
		}
		for j, p := range b.places() {
			*at[j] = *p
		}
		l = append(l, x)
	}
	return l
}
