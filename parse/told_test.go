package parse_test

import (
	"regexp"
	"strings"
	"unicode/utf8"

	"marquee/api"
	"marquee/param"
)

// told is what the document's words make of bytes. It reads all at once, stretch by stretch, so that nothing of the step machine's way is repeated.
type told struct {
	most        int
	events      []api.Event
	state, held int
}

func tellOf(s string, most int) *told {
	t := &told{most: most}
	for s != "" {
		s = t.next(s)
	}
	return t
}

// form is what may stand ahead of a sequence's last byte.
var form = regexp.MustCompile(`^([<-?]?)([0-;]{0,256})([ -/]{0,2})$`)

// until is where the first byte stands that is one of the enders, or from 80 on, where high is asked for, or of lo to hi; else the text's length.
func until(s, enders string, high bool, lo, hi byte) int {
	for i := range len(s) {
		c := s[i]
		if strings.IndexByte(enders, c) >= 0 || high && c >= 0x80 || lo <= c && c <= hi {
			return i
		}
	}
	return len(s)
}

// keep is the bytes from lo to hi, 7f not among them.
func keep(s string, lo, hi byte) string {
	var b []byte
	for i := range len(s) {
		if c := s[i]; lo <= c && c <= hi && c != 0x7f {
			b = append(b, c)
		}
	}
	return string(b)
}

func (t *told) add(e api.Event) {
	t.events = append(t.events, e)
}

func (t *told) executes(s string) {
	for _, c := range []byte(keep(s, 0, 0x1f)) {
		t.add(api.Event{Kind: api.Execute, Byte: c})
	}
}

// open tells what the bytes end in.
func (t *told) open(state, held int) string {
	t.state, t.held = state, held
	return ""
}

// next reads what stands first at rest, and is what stands behind.
func (t *told) next(s string) string {
	switch s[0] {
	case 0x18, 0x1a:
		t.executes(s[:1])
		return s[1:]
	case 0x1b:
		return t.escape(s[1:])
	}
	stretch := s[:until(s, "\x18\x1a\x1b", false, 1, 0)]
	if !utf8.FullRuneInString(stretch) {
		if stretch == s {
			return t.open(0, len(s))
		}
		t.add(api.Event{Kind: api.Print, R: api.Broken})
		return s[len(stretch):]
	}
	r, n := utf8.DecodeRuneInString(stretch)
	if r == utf8.RuneError && n == 1 {
		for n < len(stretch) && !utf8.FullRuneInString(stretch[:n+1]) {
			n++
		}
	}
	switch {
	case r < 0x20:
		t.executes(s[:1])
	case r == 0x7f:
	case 0x80 <= r && r <= 0x9f:
		return t.last(byte(r)-0x40, s[n:])
	default:
		t.add(api.Event{Kind: api.Print, R: r})
	}
	return s[n:]
}

func (t *told) escape(s string) string {
	n := until(s, "\x18\x1a\x1b", true, 0x30, 0x7e)
	t.executes(s[:n])
	between := keep(s[:n], 0x20, 0x2f)
	few := len(between) <= 2
	switch {
	case n == len(s) && few:
		return t.open(1, len(between))
	case n == len(s):
		return t.open(1, 0)
	case s[n] < 0x30 || s[n] >= 0x80:
		return s[n:]
	case between == "":
		return t.last(s[n], s[n+1:])
	case few:
		t.add(api.Event{Kind: api.Esc, Byte: s[n], Inter: between})
	}
	return s[n+1:]
}

// last reads what an escape's last byte begins.
func (t *told) last(c byte, s string) string {
	switch c {
	case '[':
		return t.sequence(s)
	case ']':
		return t.command(s)
	case 'P':
		return t.device(s)
	case 'X', '^', '_':
		n := until(s, "\x18\x1a\x1b", false, 1, 0)
		if n == len(s) {
			return t.open(5, 0)
		}
		return s[n:]
	}
	t.add(api.Event{Kind: api.Esc, Byte: c})
	return s
}

// formed is the event of what stands ahead of a last byte, and how many bytes of it are held; false, if it is wrong.
func formed(kind int, s string) (api.Event, int, bool) {
	l := form.FindStringSubmatch(keep(s, 0x20, 0x3f))
	if l == nil {
		return api.Event{}, 0, false
	}
	e := api.Event{Kind: kind, Inter: l[3]}
	if l[1] != "" {
		e.Prefix = l[1][0]
	}
	e.Nums, _ = param.Parse(l[2])
	return e, len(l[2]) + len(l[3]), true
}

func (t *told) sequence(s string) string {
	n := until(s, "\x18\x1a\x1b", true, 0x40, 0x7e)
	t.executes(s[:n])
	e, held, right := formed(api.Csi, s[:n])
	switch {
	case n == len(s):
		return t.open(2, held)
	case s[n] < 0x40 || s[n] >= 0x80:
		return s[n:]
	case right:
		e.Byte = s[n]
		t.add(e)
	}
	return s[n+1:]
}

func (t *told) device(s string) string {
	n := until(s, "\x18\x1a\x1b", true, 0x40, 0x7e)
	e, held, right := formed(api.Dcs, s[:n])
	switch {
	case n == len(s):
		return t.open(3, held)
	case s[n] < 0x40 || s[n] >= 0x80:
		return s[n:]
	}
	e.Byte = s[n]
	s = s[n+1:]
	n = until(s, "\x18\x1a\x1b", false, 1, 0)
	e.Text, e.Cut = s[:min(n, t.most)], n > t.most
	switch {
	case n == len(s) && right:
		return t.open(3, held+len(e.Text))
	case n == len(s):
		return t.open(3, 0)
	case s[n] == 0x1b && right:
		t.add(e)
	}
	return s[n:]
}

func (t *told) command(s string) string {
	n := until(s, "\x07\x18\x1a\x1b", false, 1, 0)
	all := keep(s[:n], 0x20, 0xff)
	payload := all[:min(len(all), t.most)]
	if n == len(s) {
		return t.open(4, len(payload))
	}
	if s[n] == 7 || s[n] == 0x1b {
		t.add(api.Event{Kind: api.Osc, Text: payload, Cut: payload != all})
	}
	if s[n] == 7 {
		n++
	}
	return s[n:]
}
