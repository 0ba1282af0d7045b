package session

import (
	"marquee/api"
	"marquee/find"
	"marquee/text"
)

// everywhere is the number by which all of the document is meant.
const everywhere = -1

// section is a part of the document: the rows that it has, and where it begins and ends in these.
type section struct {
	rows     []api.Row
	from, to api.Pos
	above    int // how many rows of the document are ahead of these
}

// Copy is the text of a part of a block, and whether the block is cut.
func (s *Session) Copy(id uint64, part int) (string, bool, api.Errno) {
	b, ok := s.block(id)
	if !ok {
		return "", false, api.ErrNone
	}
	from, to, ok := bounds(b, part)
	if !ok {
		return "", false, api.ErrArg
	}
	copied := s.section(from, to).text()
	if to == s.end() {
		copied = text.Trim(copied)
	}
	return copied, b.Cut, api.OK
}

// Find is the places of a needle.
func (s *Session) Find(needle string, id int) ([]api.Pos, api.Errno) {
	if needle == "" {
		return nil, api.ErrArg
	}
	x, ok := s.searched(id)
	if !ok {
		return nil, api.ErrNone
	}
	hits := find.All(x.text(), needle)
	if len(hits) == 0 { // the places of all bytes take far more room than these do
		return nil, api.OK
	}
	places := x.places()
	l := make([]api.Pos, len(hits))
	for i, hit := range hits {
		l[i] = places[hit]
		l[i].Row += x.above
	}
	return l, api.OK
}

// searched is what is looked at for the number of a block.
func (s *Session) searched(id int) (section, bool) {
	if s == nil || id < everywhere {
		return section{}, false
	}
	if id == everywhere {
		return s.section(api.Pos{}, s.end()), true
	}
	b, ok := s.block(uint64(id))
	if !ok {
		return section{}, false
	}
	return s.section(b.Start, b.Stop), true
}

// section is what stands from a place up to another one. Whether its first row goes on, and what is behind its last one, is nothing to its text.
func (s *Session) section(from, to api.Pos) section {
	x := section{from: from, to: to, above: from.Row}
	x.from.Row -= x.above
	x.to.Row -= x.above
	for i := from.Row; i <= min(to.Row, s.count()-1); i++ {
		row, _ := s.page().Row(i)
		x.rows = append(x.rows, row)
	}
	return x
}

func (x section) text() string {
	return text.Of(x.rows, x.from, x.to)
}

func (x section) places() []api.Pos {
	return text.Places(x.rows, x.from, x.to)
}

// bounds is where a part of a block begins and ends.
func bounds(b api.Block, part int) (from, to api.Pos, ok bool) {
	switch part {
	case api.PartAll:
		return b.Start, b.Stop, true
	case api.PartPrompt:
		return b.Start, b.Input, true
	case api.PartInput:
		return b.Input, b.Output, true
	case api.PartOutput:
		return b.Output, b.Done, true
	}
	return api.Pos{}, api.Pos{}, false
}
