package utf_test

import (
	"math"
	"slices"
	"testing"

	"marquee/api"
	"marquee/utf"
)

// book is the document's words spelt out: the bytes of all scalars, and all beginnings.
type book struct {
	scalars    map[string]rune
	beginnings map[string]bool
}

func isScalar(r rune) bool {
	return 0 <= r && r <= api.MaxRune && (r < 0xd800 || r > 0xdfff)
}

// bytesOf lays a scalar's bytes by hand, so that nothing of the program is asked.
func bytesOf(r rune) string {
	tail := func(shift int) byte { return byte(0x80 | r>>shift&0x3f) }
	switch {
	case r < 0x80:
		return string([]byte{byte(r)})
	case r < 0x800:
		return string([]byte{byte(0xc0 | r>>6), tail(0)})
	case r < 0x10000:
		return string([]byte{byte(0xe0 | r>>12), tail(6), tail(0)})
	}
	return string([]byte{byte(0xf0 | r>>18), tail(12), tail(6), tail(0)})
}

func newBook() *book {
	k := &book{map[string]rune{}, map[string]bool{}}
	for r := rune(0); r <= api.MaxRune; r++ {
		if !isScalar(r) {
			continue
		}
		s := bytesOf(r)
		k.scalars[s] = r
		for n := 1; n < len(s); n++ {
			k.beginnings[s[:n]] = true
		}
	}
	return k
}

// read is what is read of bytes, by the document's words.
func (k *book) read(b string) []rune {
	var l []rune
	for len(b) > 0 {
		r, n := rune(api.Broken), 1
		for i := 1; i <= min(4, len(b)); i++ {
			if k.beginnings[b[:i]] {
				n = i
			}
		}
		for i := 1; i <= min(4, len(b)); i++ {
			if x, ok := k.scalars[b[:i]]; ok {
				r, n = x, i
			}
		}
		l = append(l, r)
		b = b[n:]
	}
	return l
}

// edges are the bytes at which the meaning of bytes changes, and one behind and ahead of most.
const edges = "\x00A\x7f\x80\x8f\x90\x9f\xa0\xbf\xc0\xc1\xc2\xdf\xe0\xe1\xec\xed\xee\xef\xf0\xf1\xf3\xf4\xf5\xff"

// eachText hands on all texts of edges that have at most n bytes.
func eachText(n int, do func(s string)) {
	var grow func(s string)
	grow = func(s string) {
		do(s)
		if len(s) == n {
			return
		}
		for i := range len(edges) {
			grow(s + edges[i:i+1])
		}
	}
	grow("")
}

// longer are texts in which scalars and broken ones stand behind each other.
func longer() []string {
	return []string{
		"a\u20acb\U0001f600c\u3042\u0301",
		"\xf0\x9f\x98\xf0\x9f\x98\x80\xe2\x82\xe2\x82\xac\xc3\xc3\xa9",
		"\xed\xa0\x80\xed\xb0\x80\xf4\x90\x80\x80\xf8\x88\x80\x80\x80",
		"\xef\xbf\xbd\xef\xbf\xef\xbf\xbd\xef",
		"\xe0\x9f\xbf\xf0\x8f\xbf\xbf\xc0\xaf\xfe\xff",
	}
}

func TestPut(t *testing.T) {
	for _, x := range []struct {
		r    rune
		want string
	}{
		{0, "\x00"}, {'a', "a"}, {0x7f, "\x7f"}, {0x80, "\xc2\x80"}, {0x7ff, "\xdf\xbf"}, {0x800, "\xe0\xa0\x80"},
		{0x20ac, "\xe2\x82\xac"}, {0xd7ff, "\xed\x9f\xbf"}, {0xe000, "\xee\x80\x80"}, {0xfffd, "\xef\xbf\xbd"},
		{0xffff, "\xef\xbf\xbf"}, {0x10000, "\xf0\x90\x80\x80"}, {0x1f600, "\xf0\x9f\x98\x80"}, {0x10ffff, "\xf4\x8f\xbf\xbf"},
		{0xd800, ""}, {0xdbff, ""}, {0xdc00, ""}, {0xdfff, ""}, {0x110000, ""}, {-1, ""}, {math.MinInt32, ""}, {math.MaxInt32, ""},
	} {
		if got := utf.Put(x.r); got != x.want {
			t.Errorf("Put(%x): %x, not %x", x.r, got, x.want)
		}
	}
}

func TestPutAllScalars(t *testing.T) {
	for r := rune(-2); r <= api.MaxRune+2; r++ {
		want := ""
		if isScalar(r) {
			want = bytesOf(r)
		}
		if got := utf.Put(r); got != want {
			t.Fatalf("Put(%x): %x, not %x", r, got, want)
		}
	}
}

func TestSize(t *testing.T) {
	var want [256]int
	for s := range newBook().scalars {
		want[s[0]] = len(s)
	}
	for c := range want {
		if got := utf.Size(byte(c)); got != want[c] {
			t.Errorf("Size(%x): %d, not %d", c, got, want[c])
		}
	}
}

func TestAll(t *testing.T) {
	const x = api.Broken
	for _, c := range []struct {
		b    string
		want []rune
	}{
		{"", nil},
		{"plain", []rune{'p', 'l', 'a', 'i', 'n'}},
		{"\xe2\x82A", []rune{x, 'A'}}, // the chapter's examples
		{"\xf0\x9f\x98\x80", []rune{0x1f600}},
		{"\xef\xbf\xbd", []rune{x}}, // a scalar, not a broken one
		{"\xed\xa0\x80", []rune{x, x, x}},
		{"\xed\x9f\xbf\xee\x80\x80", []rune{0xd7ff, 0xe000}},
		{"\xc0\x80", []rune{x, x}},
		{"\xe0\x9f\xbf", []rune{x, x, x}},
		{"\xf0\x8f\xbf\xbf", []rune{x, x, x, x}},
		{"\xf4\x8f\xbf\xbf\xf4\x90\x80\x80", []rune{0x10ffff, x, x, x, x}},
		{"\xf5\x80", []rune{x, x}},
		{"\xf0\x9f\x98", []rune{x}},
		{"\xf0\x9f\x98A", []rune{x, 'A'}},
		{"\xf0\x9f\x98\xe2\x82\xac", []rune{x, 0x20ac}},
		{"\xe2\xe2\x82\xe2\x82\xac", []rune{x, x, 0x20ac}},
		{"\x80\xbf", []rune{x, x}},
	} {
		if got := utf.All([]byte(c.b)); !slices.Equal(got, c.want) {
			t.Errorf("All(%x): %x, not %x", c.b, got, c.want)
		}
	}
	if got := utf.All(nil); len(got) != 0 {
		t.Errorf("All(nil): %x", got)
	}
}

func TestAllIsTheReading(t *testing.T) {
	k := newBook()
	check := func(s string) {
		if got, want := utf.All([]byte(s)), k.read(s); !slices.Equal(got, want) {
			t.Fatalf("All(%x): %x, not %x", s, got, want)
		}
	}
	eachText(4, check)
	for _, s := range longer() {
		check(s)
	}
}

func TestStep(t *testing.T) {
	const x = api.Broken
	type step struct {
		c    byte
		want []rune
		left int
	}
	for name, l := range map[string][]step{
		"one byte":            {{'a', []rune{'a'}, 0}, {0, []rune{0}, 0}},
		"a whole scalar":      {{0xf0, nil, 1}, {0x9f, nil, 2}, {0x98, nil, 3}, {0x80, []rune{0x1f600}, 0}},
		"ended by a scalar":   {{0xe2, nil, 1}, {0x82, nil, 2}, {'A', []rune{x, 'A'}, 0}},
		"ended by a new one":  {{0xe2, nil, 1}, {0xc3, []rune{x}, 1}, {0xa9, []rune{0xe9}, 0}},
		"ended by none":       {{0xf0, nil, 1}, {0x9f, nil, 2}, {0xff, []rune{x, x}, 0}},
		"a surrogate":         {{0xed, nil, 1}, {0xa0, []rune{x, x}, 0}, {0x80, []rune{x}, 0}},
		"more than is needed": {{0xe0, nil, 1}, {0x9f, []rune{x, x}, 0}},
		"beyond the greatest": {{0xf4, nil, 1}, {0x90, []rune{x, x}, 0}},
		"no first byte":       {{0x80, []rune{x}, 0}, {0xc1, []rune{x}, 0}, {0xf5, []rune{x}, 0}},
	} {
		var d utf.Decoder
		for i, s := range l {
			got := d.Step(s.c)
			if !slices.Equal(got, s.want) || d.Left() != s.left {
				t.Errorf("%s, step %d: %x, %d left, not %x, %d", name, i, got, d.Left(), s.want, s.left)
			}
		}
	}
}

// TestStepHoldsNothingBack: what was read is what is read of all bytes but those that wait, and these could still become a scalar.
func TestStepHoldsNothingBack(t *testing.T) {
	k := newBook()
	check := func(s string) {
		var d utf.Decoder
		var got []rune
		for i := range len(s) {
			got = append(got, d.Step(s[i])...)
			at := i + 1 - d.Left()
			if at < 0 || at > i+1 || at <= i && !k.beginnings[s[at:i+1]] {
				t.Fatalf("%x: %d wait behind step %d", s, d.Left(), i)
			}
			if want := k.read(s[:at]); !slices.Equal(got, want) {
				t.Fatalf("%x: %x behind step %d, not %x", s, got, i, want)
			}
		}
	}
	eachText(3, check)
	for _, s := range longer() {
		check(s)
	}
}

func TestEnd(t *testing.T) {
	for _, s := range []string{"\xc3", "\xe2", "\xe2\x82", "\xf0", "\xf0\x9f", "\xf0\x9f\x98"} {
		var d utf.Decoder
		for i := range len(s) {
			d.Step(s[i])
		}
		if d.Left() != len(s) {
			t.Errorf("%x: %d left", s, d.Left())
		}
		if got := d.End(); !slices.Equal(got, []rune{api.Broken}) || d.Left() != 0 {
			t.Errorf("End of %x: %x, %d left", s, got, d.Left())
		}
		if got := d.End(); len(got) != 0 {
			t.Errorf("the second End of %x: %x", s, got)
		}
		if got := d.Step(0x80); !slices.Equal(got, []rune{api.Broken}) { // nothing of what waited goes on
			t.Errorf("Step behind End of %x: %x", s, got)
		}
	}
	var d utf.Decoder
	if got := d.End(); len(got) != 0 || d.Left() != 0 {
		t.Errorf("End of nothing: %x, %d left", got, d.Left())
	}
	d.Step('a')
	if got := d.End(); len(got) != 0 {
		t.Errorf("End where none wait: %x", got)
	}
}

func TestNilDecoder(t *testing.T) {
	var d *utf.Decoder
	if l := d.Step('a'); len(l) != 0 {
		t.Errorf("Step: %x", l)
	}
	if n := d.Left(); n != 0 {
		t.Errorf("Left: %d", n)
	}
	if l := d.End(); len(l) != 0 {
		t.Errorf("End: %x", l)
	}
}

func TestStepsReadWhatAllReads(t *testing.T) {
	check := func(s string) {
		var d utf.Decoder
		var got []rune
		for i := range len(s) {
			got = append(got, d.Step(s[i])...)
		}
		got = append(got, d.End()...)
		if want := utf.All([]byte(s)); !slices.Equal(got, want) {
			t.Fatalf("steps of %x: %x, not %x", s, got, want)
		}
	}
	eachText(4, check)
	for _, s := range longer() {
		check(s)
	}
}

func TestWhatIsPutIsRead(t *testing.T) {
	for r := rune(0); r <= api.MaxRune; r++ {
		if !isScalar(r) {
			continue
		}
		s := utf.Put(r)
		if got := utf.All([]byte(s)); !slices.Equal(got, []rune{r}) {
			t.Fatalf("All of what Put lays for %x: %x", r, got)
		}
		if utf.Size(s[0]) != len(s) {
			t.Fatalf("Size of what Put lays for %x: %d", r, utf.Size(s[0]))
		}
	}
}

func TestNothingIsSharedOrChanged(t *testing.T) {
	whole := []byte("a\xe2\x82A\xf0\x9fspare")
	b := whole[:6]
	first := utf.All(b)
	if string(whole) != "a\xe2\x82A\xf0\x9fspare" {
		t.Errorf("All changed what was handed in: %x", whole)
	}
	first[0] = 'z'
	if got := utf.All(b); !slices.Equal(got, []rune{'a', api.Broken, 'A', api.Broken}) {
		t.Errorf("All shares an answer: %x", got)
	}

	var d utf.Decoder
	d.Step(0xe2)
	other := d
	d.Step(0x82)
	if got := other.Step('A'); !slices.Equal(got, []rune{api.Broken, 'A'}) || d.Left() != 2 {
		t.Errorf("a copy isn't apart: %x, %d left", got, d.Left())
	}
	one := d.Step(0xac)
	d.Step('b')
	if !slices.Equal(one, []rune{0x20ac}) {
		t.Errorf("a later step changed an answer: %x", one)
	}
}
