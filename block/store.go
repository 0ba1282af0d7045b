package block

import (
	"marquee/api"
	"marquee/shift"
)

// newest is the newest block, or nil.
func (s *Store) newest() *block {
	if len(s.blocks) == 0 {
		return nil
	}
	return &s.blocks[len(s.blocks)-1]
}

// phase is that of the newest block.
func (s *Store) phase() int {
	if b := s.newest(); b != nil {
		return b.phase
	}
	return api.Unmarked
}

// isOpen tells whether the newest block can go on.
func (s *Store) isOpen() bool {
	return s.phase() != api.Unmarked && s.phase() != api.Ended
}

// behind is a place, brought behind what the newest block has.
func (s *Store) behind(at api.Pos) api.Pos {
	if b := s.newest(); b != nil {
		return shift.Later(at, b.last())
	}
	return at
}

// begin takes the newest block to a phase, or a new one, if that one isn't ahead of it.
func (s *Store) begin(phase int, at api.Pos) {
	at = s.behind(at)
	if !s.isOpen() || s.phase() >= phase {
		s.start()
	}
	s.newest().reach(phase, at)
	if len(s.blocks) > s.most {
		s.drop()
	}
}

// end ends the newest block.
func (s *Store) end(x api.Sign, at api.Pos) {
	if !s.isOpen() {
		return
	}
	at = s.behind(at)
	b := s.newest()
	b.reach(api.Ended, at)
	b.code, b.has = x.Code, x.Has
}

// turn turns the directory, which a block has till its output begins.
func (s *Store) turn(dir string) {
	s.dir = dir
	if s.phase() == api.Prompt || s.phase() == api.Input {
		s.newest().dir = dir
	}
}

// start adds a block that has no place yet.
func (s *Store) start() {
	s.last++
	s.blocks = append(s.blocks, block{told: told{id: s.last, dir: s.dir}})
}

// drop lets the first block go.
func (s *Store) drop() {
	s.blocks[0] = block{} // what lies ahead of the blocks would keep its texts
	s.blocks = s.blocks[1:]
}

// evict lets the blocks go of which nothing is left without the first n rows, and cuts the others that begin in these.
func (s *Store) evict(n int) {
	kept := api.Pos{Row: n}
	for len(s.blocks) > 1 && s.blocks[0].start().Row < n && !shift.Less(kept, s.blocks[1].start()) {
		s.drop()
	}
	for i := range s.blocks {
		if b := &s.blocks[i]; b.start().Row < n {
			b.cut = true
		}
	}
}

// count is how many places were reached.
func (s *Store) count() int {
	n := 0
	for i := range s.blocks {
		n += s.blocks[i].phase
	}
	return n
}

// stop is where the block i stops; that of -1 is the unmarked one's.
func (s *Store) stop(i int, end api.Pos) api.Pos {
	switch {
	case i+1 < s.Len():
		return s.blocks[i+1].start()
	case i < 0:
		return end
	}
	return s.behind(end)
}

// unmarked is what is ahead of all blocks.
func (s *Store) unmarked(end api.Pos) api.Block {
	stop := s.stop(-1, end)
	return api.Block{Phase: api.Unmarked, Input: stop, Output: stop, Done: stop, Stop: stop}
}

// block is the block i.
func (s *Store) block(i int, end api.Pos) api.Block {
	b, stop := s.blocks[i], s.stop(i, end)
	at := [...]api.Pos{stop, stop, stop, stop}
	copy(at[:], b.reached())
	return api.Block{
		Id: b.id, Phase: b.phase,
		Start: at[0], Input: at[1], Output: at[2], Done: at[3], Stop: stop,
		Code: b.code, Has: b.has, Cut: b.cut,
		Dir: b.dir, Line: b.line,
	}
}
