package pct_test

import (
	"strings"
	"testing"

	"marquee/api"
	"marquee/pct"
)

// check holds all that is answered of one text against the document's words.
func check(t *testing.T, s string) {
	t.Helper()
	laid := pct.Lay(s)
	if want := toldLay(s); laid != want {
		t.Errorf("Lay(%q): %q, not %q", s, laid, want)
	}
	if got, want := pct.Take(s), toldTake(s); got != want {
		t.Errorf("Take(%q): %q, not %q", s, got, want)
	}
	got, ok := pct.Strict(s)
	if want, wantOk := toldStrict(s); got != want || ok != wantOk {
		t.Errorf("Strict(%q): %q, %v, not %q, %v", s, got, ok, want, wantOk)
	}
	if got := pct.Take(laid); got != s {
		t.Errorf("%q is laid %q, and taken %q", s, laid, got)
	}
	if got, ok := pct.Strict(laid); got != s || !ok {
		t.Errorf("%q is laid %q, and taken strictly %q, %v", s, laid, got, ok)
	}
}

// checkFile holds what an address is read as against the document's words.
func checkFile(t *testing.T, s string) {
	t.Helper()
	host, path, e := pct.File(s)
	if wantHost, wantPath, want := toldFile(s); host != wantHost || path != wantPath || e != want {
		t.Errorf("File(%q): %q, %q, %v, not %q, %q, %v", s, host, path, e, wantHost, wantPath, want)
	}
}

// checkMake holds what is made of a host and a path against the document's words, and reads it.
func checkMake(t *testing.T, host, path string) {
	t.Helper()
	s, e := pct.Make(host, path)
	if want, wantE := toldMake(host, path); s != want || e != wantE {
		t.Errorf("Make(%q, %q): %q, %v, not %q, %v", host, path, s, e, want, wantE)
	}
	if e != api.OK {
		return
	}
	if h, p, e := pct.File(s); h != host || p != path || e != api.OK {
		t.Errorf("%q and %q are made %q, and read as %q, %q, %v", host, path, s, h, p, e)
	}
}

// eachText hands on all texts of some bytes that have at most n of them.
func eachText(bytes string, n int, do func(s string)) {
	var each func(s string)
	each = func(s string) {
		do(s)
		if len(s) == n {
			return
		}
		for i := range len(bytes) {
			each(s + bytes[i:i+1])
		}
	}
	each("")
}

func TestLay(t *testing.T) {
	for _, x := range []struct{ s, want string }{
		{"", ""}, {"a b%", "a%20b%25"}, {"\xff;~", "%FF%3B~"}, {"/a/b-c_d.e~", "/a/b-c_d.e~"}, {"azAZ09", "azAZ09"},
		{"`{@[/:", "%60%7B%40%5B/%3A"}, {"%20", "%2520"}, {"%%", "%25%25"}, {"\x00\n\x1b\x7f\x80", "%00%0A%1B%7F%80"},
		{"\u3042", "%E3%81%82"}, {"\\;?#&+=:,!*'()", "%5C%3B%3F%23%26%2B%3D%3A%2C%21%2A%27%28%29"}, {" ", "%20"},
	} {
		if got := pct.Lay(x.s); got != x.want {
			t.Errorf("Lay(%q): %q, not %q", x.s, got, x.want)
		}
		check(t, x.s)
	}
}

func TestTake(t *testing.T) {
	for _, x := range []struct{ s, want string }{
		{"", ""}, {"a%20b", "a b"}, {"%2", "%2"}, {"%", "%"}, {"%%", "%%"}, {"%%41", "%A"}, {"%%%41%", "%%A%"}, {"%4%41", "%4A"}, {"%2541", "%41"},
		{"%aF%Af%af%AF", "\xaf\xaf\xaf\xaf"}, {"%00%ff", "\x00\xff"}, {"%zz", "%zz"}, {"%g0", "%g0"}, {"%0g", "%0g"}, {"%G0%0G", "%G0%0G"}, {"%+1", "%+1"}, {"%-1", "%-1"},
		{"% 1", "% 1"}, {"%1 ", "%1 "}, {"%0x41", "%0x41"}, {"%x41", "%x41"}, {"%_1%1_", "%_1%1_"}, {"%:0%/0%@0%`0", "%:0%/0%@0%`0"}, {"+", "+"}, {"\xff\x00", "\xff\x00"},
		{"%E3%81%82", "\u3042"}, {"%\u3042", "%\u3042"}, {"%411", "A1"}, {"%\uff14\uff11", "%\uff14\uff11"}, {"a;b?c#d", "a;b?c#d"},
	} {
		if got := pct.Take(x.s); got != x.want {
			t.Errorf("Take(%q): %q, not %q", x.s, got, x.want)
		}
		check(t, x.s)
	}
}

func TestStrict(t *testing.T) {
	for _, x := range []struct {
		s, want string
		ok      bool
	}{
		{"", "", true}, {"a b", "a b", true}, {"%20", " ", true}, {"%25", "%", true}, {"%2525", "%25", true}, {"%aA%00", "\xaa\x00", true}, {"\xff", "\xff", true},
		{"%", "", false}, {"%2", "", false}, {"%%", "", false}, {"%%41", "", false}, {"%41%", "", false}, {"%41%4", "", false}, {"a%zzb", "", false}, {"%4%41", "", false},
		{"%2g", "", false}, {"%g2", "", false}, {"%+1", "", false}, {"%20%20%20%2x", "", false}, {"%zz%20", "", false},
	} {
		if got, ok := pct.Strict(x.s); got != x.want || ok != x.ok {
			t.Errorf("Strict(%q): %q, %v, not %q, %v", x.s, got, ok, x.want, x.ok)
		}
		check(t, x.s)
	}
}

func TestFile(t *testing.T) {
	for _, x := range []struct{ s, host, path string }{
		{"file://h/a%20b", "h", "/a b"}, {"FILE://h/a%20b%zz", "h", "/a b%zz"}, {"fIlE:///", "", "/"}, {"file:///a", "", "/a"}, {"file:////a", "", "//a"}, {"file://h/", "h", "/"},
		{"file://h//", "h", "//"}, {"file://H.x:80/%2f", "H.x:80", "//"}, {"file://a%20b/c", "a%20b", "/c"}, {"file://%2F/c", "%2F", "/c"}, {"file://a b;?#/c?d#e;f", "a b;?#", "/c?d#e;f"},
		{"file://\xff\x00/\xfe%FF", "\xff\x00", "/\xfe\xff"}, {"file://file://h/a", "file:", "//h/a"}, {"file://\\/\\", "\\", "/\\"}, {"file://h/%", "h", "/%"}, {"file://h/\n", "h", "/\n"},
	} {
		if host, path, e := pct.File(x.s); host != x.host || path != x.path || e != api.OK {
			t.Errorf("File(%q): %q, %q, %v, not %q, %q", x.s, host, path, e, x.host, x.path)
		}
		checkFile(t, x.s)
	}
}

func TestFileOfWhatIsNone(t *testing.T) {
	for _, s := range []string{
		"", "f", "file", "file:", "file:/", "file://", "file://h", "file://h%2Fa", "file:/h/a", "file:h/a", "/a", "//h/a", "h/a", "http://h/a", "files://h/a", " file://h/a", "file ://h/a",
		"file//h/a", "file:\\\\h\\a", "ffile://h/a", "\ufb01le://h/a", "f\u0131le://h/a", "f\u0130le://h/a", "\uff46ile://h/a", "\x00file://h/a", "file;//h/a", "file:%2F/h/a", "gile://h/a", "file:./h/a",
	} {
		if host, path, e := pct.File(s); host != "" || path != "" || e != api.ErrForm {
			t.Errorf("File(%q): %q, %q, %v", s, host, path, e)
		}
		checkFile(t, s)
	}
}

func TestMake(t *testing.T) {
	for _, x := range []struct{ host, path, want string }{
		{"h", "/a b", "file://h/a%20b"}, {"", "/", "file:///"}, {"", "//", "file:////"}, {"H o%", "/%;", "file://H o%/%25%3B"}, {"\xff", "/\xff", "file://\xff/%FF"}, {"file:", "/a", "file://file:/a"},
	} {
		if got, e := pct.Make(x.host, x.path); got != x.want || e != api.OK {
			t.Errorf("Make(%q, %q): %q, %v, not %q", x.host, x.path, got, e, x.want)
		}
		checkMake(t, x.host, x.path)
	}
	for _, x := range [][2]string{
		{"", ""}, {"h", ""}, {"h", "a"}, {"h", "a/"}, {"h", " /a"}, {"h", "%2Fa"}, {"h", "\\a"}, {"h", "\x00/"}, {"/", "/a"}, {"h/", "/a"}, {"/h", "/a"}, {"a/b", "/a"}, {"a/b", "a"}, {"//", ""},
	} {
		if got, e := pct.Make(x[0], x[1]); got != "" || e != api.ErrForm {
			t.Errorf("Make(%q, %q): %q, %v", x[0], x[1], got, e)
		}
		checkMake(t, x[0], x[1])
	}
}

func TestEachByte(t *testing.T) {
	for c := range 256 {
		b := string([]byte{byte(c)})
		for _, s := range []string{b, b + "41", "%" + b + "1", "%4" + b, "%41" + b, "%" + b, b + b, "%" + b + b} {
			check(t, s)
			checkFile(t, "file://"+s+"/"+s)
			checkMake(t, s, "/"+s)
			checkMake(t, "h", s)
		}
		for i := range len("file:///") {
			checkFile(t, "file:///"[:i]+b+"file:///"[i+1:])
			checkFile(t, "file:///"[:i]+b+"file:///"[i:])
		}
	}
}

func TestAllPairsOfDigits(t *testing.T) {
	for a := range 256 {
		for b := range 256 {
			check(t, string([]byte{'%', byte(a), byte(b)}))
		}
	}
}

func TestAllShortTexts(t *testing.T) {
	eachText("%4aFg/ ", 6, func(s string) {
		check(t, s)
		checkFile(t, "file://"+s)
	})
	eachText("a/% ", 3, func(host string) {
		eachText("a/% ", 3, func(path string) { checkMake(t, host, path) })
	})
	eachText("fF/:", 4, func(s string) {
		checkFile(t, s+"ile://h/a")
		checkFile(t, "file"+s+"h/a")
	})
}

func TestLongTexts(t *testing.T) {
	for _, s := range []string{"%", "%4", "%41", "a", "/", "\xff", "%%41", "\u3042"} {
		long := strings.Repeat(s, 1<<15)
		check(t, long)
		checkFile(t, long)
		checkFile(t, "file://"+long)
		checkFile(t, "file:///"+long)
		checkMake(t, long, "/"+long)
		checkMake(t, "", long)
	}
}

func TestAnyTexts(t *testing.T) {
	seed := uint64(4) // what looks like chance is the same in each run
	chance := func(n int) int {
		seed = seed*6364136223846793005 + 1442695040888963407
		return int(seed >> 33 % uint64(n))
	}
	some := func() string {
		var b []byte
		for range chance(30) {
			if chance(3) == 0 {
				b = append(b, byte(chance(256)))
				continue
			}
			b = append(b, "%%%/0aFg"[chance(8)])
		}
		return string(b)
	}
	for range 20000 {
		s := some()
		check(t, s)
		checkFile(t, "file://"+s)
		checkMake(t, some(), "/"+s)
	}
}
