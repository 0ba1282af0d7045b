package osc_test

import (
	"math"
	"strings"
	"testing"
	"unsafe"

	"marquee/api"
	"marquee/osc"
	"marquee/pct"
)

// checkText holds what a text means, and how it is escaped, against the document's words.
func checkText(t *testing.T, s string) {
	t.Helper()
	if got, want := osc.Unescape(s), toldUnescape(s); got != want {
		t.Errorf("Unescape(%q): %q, not %q", s, got, want)
	}
	escaped := osc.Escape(s)
	if want := toldEscape(s); escaped != want {
		t.Errorf("Escape(%q): %q, not %q", s, escaped, want)
	}
	if got := osc.Unescape(escaped); got != s {
		t.Errorf("%q is escaped %q, and unescaped %q", s, escaped, got)
	}
}

// checkCode holds a code's number against the document's words.
func checkCode(t *testing.T, s string) {
	t.Helper()
	n, ok := osc.Code(s)
	if want, wantOk := toldCode(s); n != want || ok != wantOk {
		t.Errorf("Code(%q): %d, %v, not %d, %v", s, n, ok, want, wantOk)
	}
}

// checkRead holds what a payload says against the document's words.
func checkRead(t *testing.T, s string) {
	t.Helper()
	if got, want := osc.Read(s), toldRead(s); got != want {
		t.Errorf("Read(%q): %+v, not %+v", s, got, want)
	}
}

// checkWrite holds the payload of a sign against the document's words.
func checkWrite(t *testing.T, x api.Sign) {
	t.Helper()
	if got, want := osc.Write(x), toldWrite(x); got != want {
		t.Errorf("Write(%+v): %q, not %q", x, got, want)
	}
	checkRead(t, osc.Write(x))
}

// checkBoth holds that a sign is said by what is written of it.
func checkBoth(t *testing.T, x api.Sign) {
	t.Helper()
	checkWrite(t, x)
	if got := osc.Read(osc.Write(x)); got != x {
		t.Errorf("%+v is written %q, and read %+v", x, osc.Write(x), got)
	}
}

// eachText hands on all texts of some pieces that have at most n of them.
func eachText(n int, do func(s string), pieces ...string) {
	do("")
	if n == 0 {
		return
	}
	for _, p := range pieces {
		eachText(n-1, func(s string) { do(p + s) }, pieces...)
	}
}

func TestSignsOfShells(t *testing.T) {
	for s, want := range map[string]api.Sign{
		"133;A": {Kind: api.SignPrompt}, "633;A": {Kind: api.SignPrompt}, "133;A;cl=m;aid=7": {Kind: api.SignPrompt}, "133;A;": {Kind: api.SignPrompt},
		"133;B": {Kind: api.SignInput}, "633;B;;": {Kind: api.SignInput}, "133;C": {Kind: api.SignOutput}, "633;C;x": {Kind: api.SignOutput},
		"133;D": {Kind: api.SignDone}, "133;D;": {Kind: api.SignDone}, "133;D;x": {Kind: api.SignDone}, "133;D;;1": {Kind: api.SignDone}, "133;D; 1": {Kind: api.SignDone}, "133;D;1 ": {Kind: api.SignDone}, "133;D;+1": {Kind: api.SignDone}, "133;D;1234567890": {Kind: api.SignDone},
		"133;D;1": {Kind: api.SignDone, Code: 1, Has: true}, "633;D;0;1": {Kind: api.SignDone, Has: true}, "133;D;-1;x": {Kind: api.SignDone, Code: -1, Has: true}, "633;D;-0": {Kind: api.SignDone, Has: true}, "133;D;007": {Kind: api.SignDone, Code: 7, Has: true},
		"133;D;-999999999": {Kind: api.SignDone, Code: -999999999, Has: true},
	} {
		if got := osc.Read(s); got != want {
			t.Errorf("Read(%q): %+v, not %+v", s, got, want)
		}
		checkRead(t, s)
	}
}

func TestSignsWithTexts(t *testing.T) {
	for s, want := range map[string]api.Sign{
		`633;E;a\x3bb`: {Kind: api.SignLine, Text: "a;b"}, `633;E;a\x3bb;n`: {Kind: api.SignLine, Text: "a;b"}, "633;E;": {Kind: api.SignLine}, "633;E;;a": {Kind: api.SignLine}, `633;E;\\x41`: {Kind: api.SignLine, Text: `\x41`}, "633;E;a b\xff\n": {Kind: api.SignLine, Text: "a b\xff\n"},
		`633;P;Cwd=/a\\b`: {Kind: api.SignDir, Text: `/a\b`}, "633;P;Cwd=": {Kind: api.SignDir}, "633;P;Cwd=;/a": {Kind: api.SignDir}, `633;P;Cwd=\x3B;x`: {Kind: api.SignDir, Text: ";"}, "633;P;Cwd=Cwd=%20": {Kind: api.SignDir, Text: "Cwd=%20"},
		"7;file://h/d": {Kind: api.SignDir, Text: "/d"}, "7;FILE:///a%20b;c%3b": {Kind: api.SignDir, Text: "/a b;c;"}, "7;file://h;x/": {Kind: api.SignDir, Text: "/"}, `7;file:///\x41`: {Kind: api.SignDir, Text: `/\x41`},
		"1337;CurrentDir=/x;y": {Kind: api.SignDir, Text: "/x;y"}, "1337;CurrentDir=": {Kind: api.SignDir}, `1337;CurrentDir=a\x41%41`: {Kind: api.SignDir, Text: `a\x41%41`}, "1337;SetMark": {Kind: api.SignPoint},
		"0;a;b": {Kind: api.SignTitle, Text: "a;b"}, "2;": {Kind: api.SignTitle}, "0;": {Kind: api.SignTitle}, "2;;": {Kind: api.SignTitle, Text: ";"}, `2;\x41%41` + "\x00": {Kind: api.SignTitle, Text: `\x41%41` + "\x00"},
	} {
		if got := osc.Read(s); got != want {
			t.Errorf("Read(%q): %+v, not %+v", s, got, want)
		}
		checkRead(t, s)
	}
}

func TestWhatSaysNothing(t *testing.T) {
	for _, s := range []string{
		"", ";", ";;", ";A", "A", "133", "633", "133;", "633;", "133;a", "133;AA", "133; A", "133;A ", "133;;A", "133;X", "133;P", "133;E;a", "133;P;Cwd=/a", "133;d;1", "0133;A", "+133;A", " 133;A", "133 ;A", "134;A", "13;A", "1330;A", "6330;A",
		"633;E", "633;e;a", "633;P", "633;P;", "633;P;Cwd", "633;P;cwd=/a", "633;P; Cwd=/a", "633;P;/a", "633;P;x;Cwd=/a", "633;P;IsWindows=True", "633;p;Cwd=/a", "633;F", "633;;E;a", "633;PCwd=/a",
		"7", "7;", "7;x", "7;/d", "7;http://h/d", "7;file://h", "7;;file://h/d", "7; file://h/d", "07;file://h/d", "77;file://h/d", "file://h/d", "1;file://h/d",
		"1337", "1337;", "1337;SetMark;", "1337;SetMark;x", "1337;setmark", "1337; SetMark", "1337;SetMar", "1337;;SetMark", "1337;SetMarkx", "1337;CurrentDir", "1337;currentdir=/a", "1337;x;CurrentDir=/a", "1337;File=:a", "133;7;SetMark", "1337;A", "01337;SetMark",
		"0", "2", "1;a", "3;a", "00;a", "02;a", "-0;a", "20;a", "8;;a", "52;c;YQ==", "4;1;red", "10;?", "\xff;a", "\u0660;a", "0:a", "0,a",
	} {
		if got := osc.Read(s); got != (api.Sign{}) {
			t.Errorf("Read(%q): %+v", s, got)
		}
		checkRead(t, s)
	}
}

func TestTextsAreCut(t *testing.T) {
	for _, n := range []int{0, 1, 254, 255, 256, 257, 258, 1000, api.MaxPayload} {
		long := strings.Repeat("abcdefg", n/7+1)[:n]
		kept := long[:min(n, 256)]
		for _, x := range []struct {
			s    string
			want api.Sign
		}{
			{"0;" + long, api.Sign{Kind: api.SignTitle, Text: kept}},
			{"2;" + long, api.Sign{Kind: api.SignTitle, Text: kept}},
			{"633;E;" + long, api.Sign{Kind: api.SignLine, Text: kept}},
			{"633;P;Cwd=" + long, api.Sign{Kind: api.SignDir, Text: kept}},
			{"1337;CurrentDir=" + long, api.Sign{Kind: api.SignDir, Text: kept}},
			{"7;file://" + long + "/" + long, api.Sign{Kind: api.SignDir, Text: "/" + long[:min(n, 255)]}},
		} {
			if got := osc.Read(x.s); got != x.want {
				t.Errorf("Read of %q..., with %d bytes: %+v", x.s[:6], n, got)
			}
			checkRead(t, x.s)
		}
	}
	// what is cut is what the bytes mean, and it is cut within a scalar, too
	for s, want := range map[string]string{
		"633;E;" + strings.Repeat(`\x41`, 300):          strings.Repeat("A", 256),
		"633;E;" + strings.Repeat(`\\`, 256):            strings.Repeat(`\`, 256),
		"633;P;Cwd=" + strings.Repeat(`\x3b`, 256):      strings.Repeat(";", 256),
		"7;file:///" + strings.Repeat("%41", 255):       "/" + strings.Repeat("A", 255),
		"2;" + strings.Repeat("\u3042", 100):            strings.Repeat("\u3042", 85) + "\xe3",
		"1337;CurrentDir=" + strings.Repeat("%4;", 100): strings.Repeat("%4;", 85) + "%",
	} {
		if got := osc.Read(s); got.Text != want {
			t.Errorf("Read(%q): %+v", s, got)
		}
	}
}

func TestNoPayloadIsKept(t *testing.T) {
	for _, first := range []string{"2;", "633;E;", "633;P;Cwd=", "1337;CurrentDir=", "7;file://h/"} {
		payload := first + strings.Repeat("a", 70000)
		text := osc.Read(payload).Text
		begin, at := uintptr(unsafe.Pointer(unsafe.StringData(payload))), uintptr(unsafe.Pointer(unsafe.StringData(text)))
		if begin <= at && at < begin+uintptr(len(payload)) {
			t.Errorf("the text that %q says is a piece of the payload", first)
		}
	}
}

func TestCode(t *testing.T) {
	for s, want := range map[string]int{
		"0": 0, "1": 1, "-1": -1, "-0": 0, "00": 0, "007": 7, "-007": -7, "255": 255, "999999999": 999999999, "-999999999": -999999999, "000000000": 0, "-000000001": -1, "123456789": 123456789,
	} {
		if n, ok := osc.Code(s); n != want || !ok {
			t.Errorf("Code(%q): %d, %v", s, n, ok)
		}
		checkCode(t, s)
	}
	for _, s := range []string{
		"", "-", "--1", "+1", "-+1", " 1", "1 ", "1-", "1-1", "- 1", "1234567890", "0000000000", "0000000001", "-1234567890", "-0000000000", "a", "1a", "a1", "1a1", "0x1", "1e1", "1_0", "1.0", "1\n", "\x001", "1;", "/", ":", "1/", "1:",
		"\uff11", "\u0661", "\xff", "99999999999999999999", "-99999999999999999999", strings.Repeat("0", 100000),
	} {
		if n, ok := osc.Code(s); n != 0 || ok {
			t.Errorf("Code(%q): %d, %v", s, n, ok)
		}
		checkCode(t, s)
	}
}

func TestUnescape(t *testing.T) {
	for s, want := range map[string]string{
		"": "", `a\x3bb`: "a;b", `\\`: `\`, `\`: `\`, `\\\`: `\\`, `\\\\`: `\\`, `\\x41`: `\x41`, `\\\x41`: `\A`, `\x`: `\x`, `\x4`: `\x4`, `\x41`: "A", `\x411`: "A1", `\x4\x41`: `\x4A`, `\x\x41`: `\xA`, `\xx41`: `\xx41`, `\X41`: `\X41`, `\xaF\xAf\x00\xFF`: "\xaf\xaf\x00\xff",
		`\xg1\x1g`: `\xg1\x1g`, `\x+1\x-1\x 1\x1_`: `\x+1\x-1\x 1\x1_`, `\n\t\0\101`: `\n\t\0\101`, `\x5cx41`: `\x41`, `\x5c\x5c`: `\\`, `\;`: `\;`, "x41": "x41", "%41": "%41", "\xff\n": "\xff\n", "\\\xff": "\\\xff", `\xe3\x81\x82`: "\u3042", "\\\u3042": "\\\u3042", `a\`: `a\`,
	} {
		if got := osc.Unescape(s); got != want {
			t.Errorf("Unescape(%q): %q, not %q", s, got, want)
		}
		checkText(t, s)
	}
}

func TestEscape(t *testing.T) {
	for s, want := range map[string]string{
		"": "", "a;b": `a\x3bb`, "a b": `a\x20b`, `\`: `\\`, `\\`: `\\\\`, `\x41`: `\\x41`, "\x00\n\x1b\x1f !": `\x00\x0a\x1b\x1f\x20!`, "\x7f\x80\xff": "\x7f\x80\xff", ":<[]^%": ":<[]^%", "\u3042": "\u3042", ";;": `\x3b\x3b`,
	} {
		if got := osc.Escape(s); got != want {
			t.Errorf("Escape(%q): %q, not %q", s, got, want)
		}
		checkText(t, s)
	}
}

func TestWrite(t *testing.T) {
	for _, x := range []struct {
		x    api.Sign
		want string
	}{
		{api.Sign{}, ""}, {api.Sign{Kind: api.SignPrompt}, "133;A"}, {api.Sign{Kind: api.SignInput}, "133;B"}, {api.Sign{Kind: api.SignOutput}, "133;C"}, {api.Sign{Kind: api.SignDone}, "133;D"},
		{api.Sign{Kind: api.SignDone, Has: true}, "133;D;0"}, {api.Sign{Kind: api.SignDone, Code: 2, Has: true}, "133;D;2"}, {api.Sign{Kind: api.SignDone, Code: -127, Has: true}, "133;D;-127"}, {api.Sign{Kind: api.SignDone, Code: 2}, "133;D"},
		{api.Sign{Kind: api.SignDone, Code: math.MinInt64, Has: true}, "133;D;-9223372036854775808"}, {api.Sign{Kind: api.SignDone, Code: math.MaxInt64, Has: true}, "133;D;9223372036854775807"},
		{api.Sign{Kind: api.SignLine, Text: "a b"}, `633;E;a\x20b`}, {api.Sign{Kind: api.SignLine}, "633;E;"}, {api.Sign{Kind: api.SignLine, Text: "\x1b;\\\a"}, `633;E;\x1b\x3b\\\x07`},
		{api.Sign{Kind: api.SignDir, Text: "/a;b"}, `633;P;Cwd=/a\x3bb`}, {api.Sign{Kind: api.SignDir}, "633;P;Cwd="}, {api.Sign{Kind: api.SignPoint}, "1337;SetMark"},
		{api.Sign{Kind: api.SignTitle, Text: "a;b \\\n"}, "2;a;b \\\n"}, {api.Sign{Kind: api.SignTitle}, "2;"},
		{api.Sign{Kind: api.SignPrompt, Code: 1, Has: true, Text: "a"}, "133;A"}, {api.Sign{Kind: api.SignPoint, Code: 1, Has: true, Text: "a"}, "1337;SetMark"}, {api.Sign{Kind: api.SignDone, Text: "a"}, "133;D"}, {api.Sign{Kind: api.SignTitle, Code: 1, Has: true, Text: "a"}, "2;a"},
		{api.Sign{Kind: -1, Text: "a"}, ""}, {api.Sign{Kind: 9, Text: "a", Has: true}, ""}, {api.Sign{Kind: math.MinInt, Text: "a"}, ""}, {api.Sign{Kind: math.MaxInt, Text: "a"}, ""}, {api.Sign{Text: "a", Code: 1, Has: true}, ""},
	} {
		if got := osc.Write(x.x); got != x.want {
			t.Errorf("Write(%+v): %q, not %q", x.x, got, x.want)
		}
		checkWrite(t, x.x)
	}
	long := strings.Repeat("a;", 5000)
	if osc.Write(api.Sign{Kind: api.SignTitle, Text: long}) != "2;"+long || osc.Write(api.Sign{Kind: api.SignLine, Text: long}) != "633;E;"+strings.Repeat(`a\x3b`, 5000) {
		t.Error("a long text is written whole")
	}
}

func TestWhatIsWrittenSaysTheSign(t *testing.T) {
	for _, kind := range []int{api.SignNone, api.SignPrompt, api.SignInput, api.SignOutput, api.SignDone, api.SignPoint} {
		checkBoth(t, api.Sign{Kind: kind})
	}
	for _, code := range []int{0, 1, -1, 9, 10, 127, 130, 255, -255, 99999999, 999999999, -999999999} {
		checkBoth(t, api.Sign{Kind: api.SignDone, Code: code, Has: true})
	}
	for _, code := range []int{1000000000, -1000000000, math.MinInt, math.MaxInt} { // too many digits
		x := api.Sign{Kind: api.SignDone, Code: code, Has: true}
		checkWrite(t, x)
		if got := osc.Read(osc.Write(x)); got != (api.Sign{Kind: api.SignDone}) {
			t.Errorf("a code of %d is read %+v", code, got)
		}
	}
	for _, kind := range []int{api.SignLine, api.SignDir, api.SignTitle} {
		eachText(4, func(s string) { checkBoth(t, api.Sign{Kind: kind, Text: s}) }, ";", `\`, "x", "4", "\n", "\xff")
		for c := range 256 {
			for _, n := range []int{1, 2, 255, 256} {
				checkBoth(t, api.Sign{Kind: kind, Text: strings.Repeat(string([]byte{byte(c)}), n)})
			}
			checkWrite(t, api.Sign{Kind: kind, Text: strings.Repeat(string([]byte{byte(c)}), 257)})
		}
	}
}

func TestAddressesAreRead(t *testing.T) {
	eachText(4, func(path string) {
		address, e := pct.Make("h", "/"+path)
		if e != api.OK {
			t.Fatal(e)
		}
		if got := osc.Read("7;" + address); got != (api.Sign{Kind: api.SignDir, Text: "/" + path}) {
			t.Errorf("the address %q says %+v", address, got)
		}
	}, ";", "%", "4", " ", "\xff", "/")
}

func TestAllShortTexts(t *testing.T) {
	eachText(6, func(s string) { checkText(t, s) }, `\`, "x", "4", "F", "a", "g")
	eachText(6, func(s string) { checkCode(t, s) }, "-", "0", "9", "+", "a")
	eachText(2, func(s string) {
		checkCode(t, s+"12345678")
		checkCode(t, "12345678"+s)
		checkCode(t, "1234"+s+"5678")
	}, "-", "0", "9", "+", "a", ";")
}

func TestAllShortPayloads(t *testing.T) {
	pieces := []string{";", "133", "633", "7", "1337", "0", "2", "A", "B", "C", "D", "E", "P", "Cwd=", "SetMark", "CurrentDir=", "file://h/", `\x3b`, "-1"}
	eachText(4, func(s string) { checkRead(t, s) }, pieces...)
	for _, first := range []string{"133;", "633;", "7;", "1337;", "0;", "2;", "633;E;", "633;P;", "133;D;", "633;P;Cwd="} {
		eachText(3, func(s string) { checkRead(t, first+s) }, pieces...)
	}
}

func TestEachByte(t *testing.T) {
	for c := range 256 {
		b := string([]byte{byte(c)})
		for _, s := range []string{b, `\` + b, `\x` + b, `\x` + b + "1", `\x4` + b, `\x41` + b, `\\` + b, b + `\`, b + "x41"} {
			checkText(t, s)
			for _, first := range []string{"633;E;", "633;P;Cwd=", "1337;CurrentDir=", "2;", "7;file://h/", "7;", "1337;", "133;D;"} {
				checkRead(t, first+s)
			}
		}
		for _, s := range []string{b, b + "1", "1" + b, "-" + b, "1" + b + "1"} {
			checkCode(t, s)
			checkRead(t, "133;D;"+s)
		}
		for _, s := range []string{"133;A", "633;B", "133;C", "133;D;1", "633;E;a", "633;P;Cwd=a", "7;file://h/a", "1337;SetMark", "1337;CurrentDir=a", "0;a", "2;a"} {
			for i := range len(s) {
				checkRead(t, s[:i]+b+s[i+1:])
				checkRead(t, s[:i]+b+s[i:])
				checkRead(t, s[:i]+s[i+1:])
				checkRead(t, s[:i])
			}
			checkRead(t, s+b)
		}
	}
}

func TestLongPayloads(t *testing.T) {
	for _, piece := range []string{";", "1", "a;", `\`, `\x4`, `\x41`, "%", "133;A;"} {
		long := strings.Repeat(piece, 1<<15)
		checkRead(t, long)
		checkText(t, strings.Repeat(piece, 1<<10))
		for _, first := range []string{"133;", "133;A;", "133;D;", "133;D;1;", "633;E;", "633;P;", "633;P;Cwd=", "7;", "7;file://", "7;file:///", "1337;", "1337;SetMark;", "1337;CurrentDir=", "0;", "2;", "9;"} {
			checkRead(t, first+long)
		}
	}
}

func TestAnyPayloads(t *testing.T) {
	seed := uint64(5) // what looks like chance is the same in each run
	chance := func(n int) int {
		seed = seed*6364136223846793005 + 1442695040888963407
		return int(seed >> 33 % uint64(n))
	}
	pieces := []string{";", ";", ";", "133", "633", "7", "1337", "0", "2", "A", "D", "E", "P", "Cwd=", "SetMark", "CurrentDir=", "file://", "/", "%41", `\x3B`, `\\`, `\x`, "-", "12", "\u3042"}
	firsts := []string{"", "133;", "633;", "7;file://", "1337;", "0;", "2;", "633;E;", "633;P;Cwd=", "133;D;"}
	for range 20000 {
		s := firsts[chance(len(firsts))]
		for range chance(10) {
			if chance(6) == 0 {
				s += string([]byte{byte(chance(256))})
				continue
			}
			s += strings.Repeat(pieces[chance(len(pieces))], 1+chance(2)*chance(2)*chance(80))
		}
		checkRead(t, s)
		checkText(t, s)
		checkCode(t, s)
		x := api.Sign{Kind: chance(11) - 1, Code: chance(3)*chance(1<<31) - chance(1<<31), Has: chance(2) == 0, Text: s}
		checkWrite(t, x)
	}
}
