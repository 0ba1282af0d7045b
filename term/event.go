package term

import (
	"marquee/api"
	"marquee/mode"
	"marquee/osc"
	"marquee/reply"
	"marquee/screen"
)

// apart is how far the stops of the first kind stand from each other.
const apart = 8

// whole is the part of a screen, as ErasePage takes it, that all its cells are.
const whole = 2

// doer is what does the events of a kind.
func (t *Term) doer(kind int) func(e api.Event) {
	switch kind {
	case api.Execute:
		return t.execute
	case api.Esc:
		return t.escape
	case api.Csi:
		return t.control
	case api.Osc:
		return t.command
	case api.Dcs:
		return t.device
	}
	return t.print
}

func (t *Term) print(e api.Event) {
	t.Screen().Print(e.R)
}

// execute does a control byte.
func (t *Term) execute(e api.Event) {
	s := t.Screen()
	switch e.Byte {
	case '\b':
		s.Back()
	case '\t':
		s.Tab(1)
	case '\n', '\v', '\f':
		s.Feed()
		if t.modes.Is(false, newLine) {
			s.Return()
		}
	case '\r':
		s.Return()
	default:
		s.Chars(s.State().Chars.Take(e.Byte))
	}
}

// escape does an escape.
func (t *Term) escape(e api.Event) {
	s := t.Screen()
	switch {
	case e.Inter == "":
		t.letter(e.Byte)
	case e.Inter == "#" && e.Byte == '8':
		s.Fill()
	default:
		s.Chars(s.State().Chars.Name(e.Inter, e.Byte))
	}
}

// letter does an escape of its last byte alone.
func (t *Term) letter(last byte) {
	s := t.Screen()
	switch last {
	case '7':
		s.Keep()
	case '8':
		t.restore()
	case 'D':
		s.Feed()
	case 'E':
		s.Feed()
		s.Return()
	case 'M':
		s.FeedBack()
	case 'H':
		s.Stops().Set(t.in())
	case 'Z':
		t.answer(reply.Primary())
	case 'c':
		t.startOver()
	case '=', '>':
		t.set(true, keypad, last == '=')
	default:
		s.Chars(s.State().Chars.Lock(last))
	}
}

// command does what a command's payload says. What it says of the history is told, unless the screen that is seen has no part in it.
func (t *Term) command(e api.Event) {
	if e.Cut {
		return
	}
	sign := osc.Read(e.Text)
	switch {
	case sign.Kind == api.SignTitle:
		t.title = sign.Text
	case sign.Kind != api.SignNone && !t.Other():
		t.collect()
		t.changes = append(t.changes, Change{Told: true, Signal: api.Signal{Sign: sign, At: t.place()}})
	}
}

// place is where the cursor of the first screen is in its document.
func (t *Term) place() api.Pos {
	at := t.First().State().At
	at.Row += t.First().Page().Base()
	return at
}

// device does a device string.
func (t *Term) device(e api.Event) {
	if e.Prefix == 0 && e.Inter == "$" && e.Byte == 'q' {
		x := t.Screen().State()
		t.answer(reply.Setting(e.Text, x.Attr, x.Top, x.Bottom))
	}
}

// startOver makes all as at first, but the history.
func (t *Term) startOver() {
	for _, s := range t.screens {
		s.Reset()
		s.ErasePage(whole)
		s.Move(0, 0)
		firstStops(s)
	}
	t.setAll(mode.New())
	t.title = ""
	t.use = first
}

// firstStops makes a screen's stops those of the first kind.
func firstStops(s *screen.Screen) {
	stops := s.Stops()
	stops.None()
	for x := 0; x < stops.Cols(); x += apart {
		stops.Set(x)
	}
}
