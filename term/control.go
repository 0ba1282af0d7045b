package term

import (
	"marquee/api"
	"marquee/param"
	"marquee/reply"
)

// form is what a control sequence has ahead of its numbers, and behind them.
type form struct {
	prefix byte
	inter  string
}

// control does a control sequence.
func (t *Term) control(e api.Event) {
	isPrivate := e.Prefix == '?'
	switch (form{e.Prefix, e.Inter}) {
	case form{}:
		t.move(e)
		t.edit(e)
		t.adjust(e)
		t.ask(e)
		t.switchModes(e, isPrivate)
	case form{prefix: '?'}:
		t.erase(e)
		t.askCursor(e, isPrivate)
		t.switchModes(e, isPrivate)
	case form{prefix: '>'}:
		if e.Byte == 'c' && number(e) == 0 {
			t.answer(reply.Secondary())
		}
	case form{inter: "$"}, form{'?', "$"}:
		if e.Byte == 'p' {
			t.answer(t.modes.Report(isPrivate, number(e)))
		}
	case form{inter: "!"}:
		if e.Byte == 'p' {
			t.reset()
		}
	}
}

// move does what moves the cursor.
func (t *Term) move(e api.Event) {
	s, n := t.Screen(), param.Count(e.Nums, 0)
	switch e.Byte {
	case 'A':
		s.Go(-n, 0)
	case 'B', 'e':
		s.Go(n, 0)
	case 'C', 'a':
		s.Go(0, n)
	case 'D':
		s.Go(0, -n)
	case 'E':
		s.Go(n, 0)
		s.Return()
	case 'F':
		s.Go(-n, 0)
		s.Return()
	case 'G', '`':
		s.Go(0, n-1-t.in())
	case 'd':
		s.Move(n-1, t.in())
	case 'H', 'f':
		s.Move(n-1, param.Count(e.Nums, 1)-1)
	case 'I':
		s.Tab(n)
	case 'Z':
		s.Tab(-n)
	case 's':
		s.Keep()
	case 'u':
		t.restore()
	}
}

// edit does what changes cells.
func (t *Term) edit(e api.Event) {
	s, n := t.Screen(), param.Count(e.Nums, 0)
	switch e.Byte {
	case '@':
		s.InsertChars(n)
	case 'L':
		s.InsertLines(n)
	case 'M':
		s.DeleteLines(n)
	case 'P':
		s.DeleteChars(n)
	case 'S':
		s.Scroll(n)
	case 'T':
		s.Scroll(-n)
	case 'X':
		s.EraseChars(n)
	case 'b':
		s.Repeat(n)
	default:
		t.erase(e)
	}
}

// erase does what erases a part of the row, or of the screen.
func (t *Term) erase(e api.Event) {
	switch e.Byte {
	case 'J':
		t.Screen().ErasePage(number(e))
	case 'K':
		t.Screen().EraseLine(number(e))
	}
}

// adjust does what later sequences and scalars hang on.
func (t *Term) adjust(e api.Event) {
	s := t.Screen()
	switch e.Byte {
	case 'g':
		t.clearStops(number(e))
	case 'm':
		s.Turn(e.Nums)
	case 'r':
		bottom := param.Get(e.Nums, 1, 0)
		if bottom == 0 {
			bottom = s.Page().Rows()
		}
		s.Margins(param.Count(e.Nums, 0)-1, bottom-1)
	}
}

// clearStops makes the cursor's column no stop, or all of them none.
func (t *Term) clearStops(k int) {
	switch k {
	case 0:
		t.Screen().Stops().Clear(t.in())
	case 3:
		t.Screen().Stops().None()
	}
}

// ask does what has an answer.
func (t *Term) ask(e api.Event) {
	k := number(e)
	switch {
	case e.Byte == 'c' && k == 0:
		t.answer(reply.Primary())
	case e.Byte == 'n' && k == 5:
		t.answer(reply.Fine())
	case e.Byte == 't' && k == 18:
		p := t.Screen().Page()
		t.answer(reply.Size(p.Rows(), p.Cols()))
	default:
		t.askCursor(e, false)
	}
}

// askCursor does what is answered by where the cursor is, as Move would take it.
func (t *Term) askCursor(e api.Event, isPrivate bool) {
	if e.Byte != 'n' || number(e) != 6 {
		return
	}
	x := t.Screen().State()
	y := x.At.Row
	if x.Opts.Home {
		y -= x.Top
	}
	t.answer(reply.Cursor(y, t.in(), isPrivate))
}

// number is a control sequence's first number, 0 in the place of none.
func number(e api.Event) int {
	return param.Get(e.Nums, 0, 0)
}
