package block

import (
	"marquee/api"
	"marquee/shift"
)

// told is what is told of a block beside its places.
type told struct {
	id        uint64
	phase     int
	code      int
	has, cut  bool
	dir, line string
}

// block is a block. A phase's number is how many places it has then.
type block struct {
	told
	places [api.Ended]api.Pos // where its prompt, its input and its output begin, and where that is done
}

// reached is the block's own places that were reached.
func (b *block) reached() []api.Pos {
	return b.places[:b.phase]
}

// start is where the block starts.
func (b *block) start() api.Pos {
	return b.places[0]
}

// last is the last place that was reached.
func (b *block) last() api.Pos {
	return b.places[b.phase-1]
}

// reach takes the block to a phase: all places up to there that weren't reached are the same one.
func (b *block) reach(phase int, at api.Pos) {
	for b.phase < phase {
		b.places[b.phase] = at
		b.phase++
	}
}

// move moves the places that were reached.
func (b *block) move(x api.Shift) {
	for i, p := range b.reached() {
		b.places[i] = shift.Move(p, x)
	}
}
