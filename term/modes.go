package term

import (
	"marquee/api"
	"marquee/mode"
	"marquee/param"
)

// The host's own modes that the terminal heeds.
const (
	putIn   = 4
	newLine = 20
)

// The private ones.
const (
	home    = 6
	wrap    = 7
	visible = 25 // the cursor
	keypad  = 66
	keeping = 1048 // the cursor is kept
)

// What has the other screen is told by any of three modes.
const (
	oldest  = 47
	older   = 1047
	cleared = 1049 // the cursor is kept meanwhile, and the other screen is erased
)

// switchModes does what sets and resets modes.
func (t *Term) switchModes(e api.Event, isPrivate bool) {
	if e.Byte != 'h' && e.Byte != 'l' {
		return
	}
	for _, n := range param.Flat(e.Nums) {
		t.set(isPrivate, n, e.Byte == 'h')
		if isPrivate {
			t.doMore(n, e.Byte == 'h')
		}
	}
}

// doMore does what a private mode does beside being set, or reset.
func (t *Term) doMore(n int, on bool) {
	switch n {
	case home:
		t.Screen().Move(0, 0)
	case keeping:
		if on {
			t.Screen().Keep()
		} else {
			t.restore()
		}
	case oldest, older, cleared:
		t.switchScreen(n, on)
	}
}

// switchScreen brings the other screen into use, or the first one again.
func (t *Term) switchScreen(n int, on bool) {
	for _, m := range [...]int{oldest, older, cleared} {
		t.set(true, m, on)
	}
	if t.Other() == on {
		return
	}
	was := t.Screen()
	if n == cleared && on {
		was.Keep()
	}
	t.use = first
	if on {
		t.use = other
	}
	t.Screen().Follow(was)
	switch {
	case n != cleared:
	case on:
		t.Screen().ErasePage(whole)
	default:
		t.restore()
	}
}

// restore goes back to the cursor that is kept; whether rows count from the margin then is a mode, too.
func (t *Term) restore() {
	t.Screen().Restore()
	t.set(true, home, t.Screen().State().Opts.Home)
}

// reset makes the screen in use, and the modes that it hangs on, as at first, but not what is seen.
func (t *Term) reset() {
	t.Screen().Reset()
	t.set(false, putIn, false)
	t.set(true, home, false)
	t.set(true, wrap, true)
	t.set(true, visible, true)
}

// set sets a mode, or resets it.
func (t *Term) set(isPrivate bool, n int, on bool) {
	t.setAll(t.modes.With(isPrivate, n, on))
}

// setAll makes these the modes, and lets both screens print as they say.
func (t *Term) setAll(m mode.Set) {
	t.modes = m
	o := api.Opts{
		Put:  m.Is(false, putIn),
		Wrap: m.Is(true, wrap),
		Home: m.Is(true, home),
	}
	for _, s := range t.screens {
		s.Set(o)
	}
}
