package term_test

import (
	"fmt"
	"slices"

	"marquee/api"
	"marquee/attr"
	"marquee/mode"
	"marquee/osc"
	"marquee/parse"
	"marquee/screen"
	"marquee/term"
)

// What the document's words make of a terminal: a list of what each event does, told so that nothing of the package's way is repeated. The screens and the parser are the layers' own; modes are names, replies are written out.
type terminal struct {
	p              *parse.Parser
	one, two       *screen.Screen
	isTwo          bool
	modes          []string
	title, replies string
	changes        []term.Change
}

// event is what an event hands to what it does.
type event struct {
	api.Event
	n, m, k int
}

type doing func(x *terminal, s *screen.Screen, e event)

func newTerminal(rows, cols, lines, payload int) *terminal {
	x := &terminal{modes: []string{"?7", "?25"}}
	x.p, _ = parse.New(payload)
	x.one, _ = screen.New(rows, cols, lines)
	x.two, _ = screen.New(rows, cols, 0)
	return x
}

func (x *terminal) used() *screen.Screen {
	if x.isTwo {
		return x.two
	}
	return x.one
}

func (x *terminal) feed(b []byte) {
	for _, c := range b {
		for _, e := range x.p.Step(c) {
			if do := doings[eventName(e)]; do != nil {
				do(x, x.used(), event{e, first(e.Nums, 0, 1), first(e.Nums, 1, 1), first(e.Nums, 0, 0)})
			}
			x.moved()
		}
	}
}

// moved tells what was done to the first screen's rows.
func (x *terminal) moved() {
	for _, shift := range x.one.Page().Shifts() {
		x.changes = append(x.changes, term.Change{Shift: shift})
	}
}

// first is the first number of a group; where it has none, or least is more, that.
func first(l [][]int, i, least int) int {
	if i >= len(l) || l[i][0] < least {
		return least
	}
	return l[i][0]
}

// eventName is what an event is called in the list.
func eventName(e api.Event) string {
	switch e.Kind {
	case api.Print:
		return "print"
	case api.Execute:
		return fmt.Sprintf("%02x", e.Byte)
	case api.Osc:
		return "command"
	}
	name := []string{"", "", "Esc ", "Csi ", "", "Dcs "}[e.Kind]
	if e.Prefix != 0 {
		name += string([]byte{e.Prefix})
	}
	return name + e.Inter + string([]byte{e.Byte})
}

func (x *terminal) in() int {
	at, cols := x.used().State().At.Col, x.used().Page().Cols()
	if at == cols {
		at--
	}
	return at
}

func (x *terminal) isSet(name string) bool {
	return slices.Contains(x.modes, name)
}

var modeNames = []string{"4", "20", "?1", "?5", "?6", "?7", "?25", "?47", "?66", "?1000", "?1002", "?1003", "?1004", "?1006", "?1047", "?1048", "?1049", "?2004"}

// mode sets a mode, or resets it; the screens print as the modes say.
func (x *terminal) mode(name string, on bool) {
	x.modes = slices.DeleteFunc(x.modes, func(m string) bool { return m == name })
	if on && slices.Contains(modeNames, name) {
		x.modes = append(x.modes, name)
	}
	for _, s := range []*screen.Screen{x.one, x.two} {
		s.Set(api.Opts{Put: x.isSet("4"), Wrap: x.isSet("?7"), Home: x.isSet("?6")})
	}
}

func (x *terminal) restore() {
	x.used().Restore()
	x.mode("?6", x.used().State().Opts.Home)
}

// turned does what h (on) and l do.
func (x *terminal) turned(prefix string, e event, on bool) {
	for i := range e.Nums {
		name := fmt.Sprint(prefix, first(e.Nums, i, 0))
		x.mode(name, on)
		switch name {
		case "?6":
			x.used().Move(0, 0)
		case "?1048":
			if on {
				x.used().Keep()
			} else {
				x.restore()
			}
		case "?47", "?1047", "?1049":
			for _, all := range []string{"?47", "?1047", "?1049"} {
				x.mode(all, on)
			}
			if on && !x.isTwo {
				if name == "?1049" {
					x.one.Keep()
				}
				x.isTwo = true
				x.two.Follow(x.one)
				if name == "?1049" {
					x.two.ErasePage(2)
				}
			}
			if !on && x.isTwo {
				x.isTwo = false
				x.one.Follow(x.two)
				if name == "?1049" {
					x.restore()
				}
			}
		}
	}
}

func (x *terminal) asAtFirst() {
	for _, s := range []*screen.Screen{x.one, x.two} {
		s.Reset()
		s.ErasePage(2)
		s.Move(0, 0)
		for c := range s.Page().Cols() {
			s.Stops().Clear(c)
			if c%8 == 0 {
				s.Stops().Set(c)
			}
		}
	}
	for _, m := range modeNames {
		x.mode(m, m == "?7" || m == "?25")
	}
	x.title, x.isTwo = "", false
}

func (x *terminal) cursor(prefix string) {
	s := x.used().State()
	y := s.At.Row
	if x.isSet("?6") {
		y -= s.Top
	}
	x.replies += fmt.Sprintf("\x1b[%s%d;%dR", prefix, max(y, 0)+1, x.in()+1)
}

func (x *terminal) report(prefix string, e event) {
	name := fmt.Sprint(prefix, e.k)
	state := 0
	if slices.Contains(modeNames, name) {
		state = 2
	}
	if x.isSet(name) {
		state = 1
	}
	x.replies += fmt.Sprintf("\x1b[%s;%d$y", name, state)
}

func (x *terminal) command(e event) {
	if e.Cut {
		return
	}
	sign := osc.Read(e.Text)
	switch sign.Kind {
	case api.SignNone:
	case api.SignTitle:
		x.title = sign.Text
	default:
		if !x.isTwo {
			at := x.one.State().At
			x.changes = append(x.changes, term.Change{Told: true, Signal: api.Signal{Sign: sign, At: pos(x.one.Page().Base()+at.Row, at.Col)}})
		}
	}
}

func (x *terminal) setting(s *screen.Screen, e event) {
	switch e.Text {
	case "m":
		x.replies += "\x1bP1$r" + attr.Text(s.State().Attr) + "m\x1b\\"
	case "r":
		x.replies += fmt.Sprintf("\x1bP1$r%d;%dr\x1b\\", s.State().Top+1, s.State().Bottom+1)
	default:
		x.replies += "\x1bP0$r\x1b\\"
	}
}

func (x *terminal) resize(rows, cols int, l []api.Pos) ([]api.Pos, api.Errno) {
	places, e := x.one.Resize(rows, cols, l...)
	if e == api.OK {
		x.two.Crop(rows, cols)
		x.changes = nil
		x.moved()
	}
	return places, e
}

// set is the modes that are set.
func (x *terminal) set() mode.Set {
	m, e := mode.Parse(x.modes...)
	if e != api.OK {
		panic(x.modes)
	}
	return m
}

var doings map[string]doing

func init() {
	doings = map[string]doing{
		"print":   func(x *terminal, s *screen.Screen, e event) { s.Print(e.R) },
		"command": func(x *terminal, s *screen.Screen, e event) { x.command(e) },
		"08":      func(x *terminal, s *screen.Screen, e event) { s.Back() },
		"09":      func(x *terminal, s *screen.Screen, e event) { s.Tab(1) },
		"0a":      fed, "0b": fed, "0c": fed,
		"0d":     func(x *terminal, s *screen.Screen, e event) { s.Return() },
		"0e":     use(1),
		"0f":     use(0),
		"Esc n":  use(2),
		"Esc o":  use(3),
		"Esc N":  once(2),
		"Esc O":  once(3),
		"Esc 7":  func(x *terminal, s *screen.Screen, e event) { s.Keep() },
		"Esc 8":  func(x *terminal, s *screen.Screen, e event) { x.restore() },
		"Esc D":  func(x *terminal, s *screen.Screen, e event) { s.Feed() },
		"Esc E":  func(x *terminal, s *screen.Screen, e event) { s.Feed(); s.Return() },
		"Esc M":  func(x *terminal, s *screen.Screen, e event) { s.FeedBack() },
		"Esc H":  func(x *terminal, s *screen.Screen, e event) { s.Stops().Set(x.in()) },
		"Esc Z":  primary,
		"Esc c":  func(x *terminal, s *screen.Screen, e event) { x.asAtFirst() },
		"Esc =":  func(x *terminal, s *screen.Screen, e event) { x.mode("?66", true) },
		"Esc >":  func(x *terminal, s *screen.Screen, e event) { x.mode("?66", false) },
		"Esc #8": func(x *terminal, s *screen.Screen, e event) { s.Fill() },

		"Csi @": func(x *terminal, s *screen.Screen, e event) { s.InsertChars(e.n) },
		"Csi A": func(x *terminal, s *screen.Screen, e event) { s.Go(-e.n, 0) },
		"Csi B": func(x *terminal, s *screen.Screen, e event) { s.Go(e.n, 0) },
		"Csi C": func(x *terminal, s *screen.Screen, e event) { s.Go(0, e.n) },
		"Csi D": func(x *terminal, s *screen.Screen, e event) { s.Go(0, -e.n) },
		"Csi E": func(x *terminal, s *screen.Screen, e event) { s.Go(e.n, 0); s.Return() },
		"Csi F": func(x *terminal, s *screen.Screen, e event) { s.Go(-e.n, 0); s.Return() },
		"Csi G": toColumn, "Csi `": toColumn,
		"Csi d": func(x *terminal, s *screen.Screen, e event) { s.Move(e.n-1, x.in()) },
		"Csi H": func(x *terminal, s *screen.Screen, e event) { s.Move(e.n-1, e.m-1) },
		"Csi f": func(x *terminal, s *screen.Screen, e event) { s.Move(e.n-1, e.m-1) },
		"Csi I": func(x *terminal, s *screen.Screen, e event) { s.Tab(e.n) },
		"Csi J": erasePage, "Csi ?J": erasePage,
		"Csi K": eraseLine, "Csi ?K": eraseLine,
		"Csi L": func(x *terminal, s *screen.Screen, e event) { s.InsertLines(e.n) },
		"Csi M": func(x *terminal, s *screen.Screen, e event) { s.DeleteLines(e.n) },
		"Csi P": func(x *terminal, s *screen.Screen, e event) { s.DeleteChars(e.n) },
		"Csi S": func(x *terminal, s *screen.Screen, e event) { s.Scroll(e.n) },
		"Csi T": func(x *terminal, s *screen.Screen, e event) { s.Scroll(-e.n) },
		"Csi X": func(x *terminal, s *screen.Screen, e event) { s.EraseChars(e.n) },
		"Csi Z": func(x *terminal, s *screen.Screen, e event) { s.Tab(-e.n) },
		"Csi a": func(x *terminal, s *screen.Screen, e event) { s.Go(0, e.n) },
		"Csi e": func(x *terminal, s *screen.Screen, e event) { s.Go(e.n, 0) },
		"Csi b": func(x *terminal, s *screen.Screen, e event) { s.Repeat(e.n) },
		"Csi c": ifFirst(0, primary),
		"Csi g": func(x *terminal, s *screen.Screen, e event) {
			for c := range s.Page().Cols() {
				if e.k == 3 || e.k == 0 && c == x.in() {
					s.Stops().Clear(c)
				}
			}
		},
		"Csi h":  func(x *terminal, s *screen.Screen, e event) { x.turned("", e, true) },
		"Csi l":  func(x *terminal, s *screen.Screen, e event) { x.turned("", e, false) },
		"Csi ?h": func(x *terminal, s *screen.Screen, e event) { x.turned("?", e, true) },
		"Csi ?l": func(x *terminal, s *screen.Screen, e event) { x.turned("?", e, false) },
		"Csi m":  func(x *terminal, s *screen.Screen, e event) { s.Turn(e.Nums) },
		"Csi n": func(x *terminal, s *screen.Screen, e event) {
			switch e.k {
			case 5:
				x.replies += "\x1b[0n"
			case 6:
				x.cursor("")
			}
		},
		"Csi ?n": ifFirst(6, func(x *terminal, s *screen.Screen, e event) { x.cursor("?") }),
		"Csi r": func(x *terminal, s *screen.Screen, e event) {
			bottom := first(e.Nums, 1, 0)
			if bottom == 0 {
				bottom = s.Page().Rows()
			}
			s.Margins(e.n-1, bottom-1)
		},
		"Csi s": func(x *terminal, s *screen.Screen, e event) { s.Keep() },
		"Csi u": func(x *terminal, s *screen.Screen, e event) { x.restore() },
		"Csi t": ifFirst(18, func(x *terminal, s *screen.Screen, e event) {
			x.replies += fmt.Sprintf("\x1b[8;%d;%dt", s.Page().Rows(), s.Page().Cols())
		}),
		"Csi >c":  ifFirst(0, func(x *terminal, s *screen.Screen, e event) { x.replies += "\x1b[>1;10;0c" }),
		"Csi $p":  func(x *terminal, s *screen.Screen, e event) { x.report("", e) },
		"Csi ?$p": func(x *terminal, s *screen.Screen, e event) { x.report("?", e) },
		"Csi !p": func(x *terminal, s *screen.Screen, e event) {
			s.Reset()
			for name, on := range map[string]bool{"4": false, "?6": false, "?7": true, "?25": true} {
				x.mode(name, on)
			}
		},
		"Dcs $q": func(x *terminal, s *screen.Screen, e event) { x.setting(s, e) },
	}
	for i, inter := range []string{"(", ")", "*", "+"} {
		for _, kind := range []byte{'B', '0', 'A'} {
			doings["Esc "+inter+string([]byte{kind})] = func(x *terminal, s *screen.Screen, e event) {
				c := s.State().Chars
				c.Sets[i] = int(kind)
				s.Chars(c)
			}
		}
	}
}

func fed(x *terminal, s *screen.Screen, e event) {
	if s.Feed(); x.isSet("20") {
		s.Return()
	}
}

func toColumn(x *terminal, s *screen.Screen, e event) {
	s.Go(0, e.n-1-x.in())
}

func erasePage(x *terminal, s *screen.Screen, e event) { s.ErasePage(e.k) }
func eraseLine(x *terminal, s *screen.Screen, e event) { s.EraseLine(e.k) }

func primary(x *terminal, s *screen.Screen, e event) {
	x.replies += "\x1b[?62;22c"
}

func ifFirst(n int, do doing) doing {
	return func(x *terminal, s *screen.Screen, e event) {
		if e.k == n {
			do(x, s, e)
		}
	}
}

func use(n int) doing {
	return func(x *terminal, s *screen.Screen, e event) {
		c := s.State().Chars
		c.Use = n
		s.Chars(c)
	}
}

func once(n int) doing {
	return func(x *terminal, s *screen.Screen, e event) {
		c := s.State().Chars
		c.Once = n
		s.Chars(c)
	}
}
