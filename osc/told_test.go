package osc_test

import (
	"fmt"
	"regexp"
	"strconv"
	"strings"

	"marquee/api"
	"marquee/pct"
)

// What the document's words make of payloads, told by patterns and lists, so that nothing of the package's way is repeated.

var (
	aCode    = regexp.MustCompile(`\A-?[0-9]{1,9}\z`)
	anEscape = regexp.MustCompile(`\\\\|\\x[0-9a-fA-F]{2}`)
)

func toldCode(s string) (int, bool) {
	if !aCode.MatchString(s) {
		return 0, false
	}
	var n int
	if _, err := fmt.Sscanf(s, "%d", &n); err != nil {
		panic(err)
	}
	return n, true
}

func toldUnescape(s string) string {
	return anEscape.ReplaceAllStringFunc(s, func(e string) string {
		if e == `\\` {
			return `\`
		}
		n, err := strconv.ParseUint(e[2:], 16, 8)
		if err != nil {
			panic(err)
		}
		return string([]byte{byte(n)})
	})
}

func toldEscape(s string) string {
	var told string
	for _, c := range []byte(s) {
		switch {
		case c == 0x5c:
			told += string([]byte{c, c})
		case c <= 0x20 || c == 0x3b:
			told += fmt.Sprintf("\\x%02x", c)
		default:
			told += string([]byte{c})
		}
	}
	return told
}

// cut is what a text has room for.
func cut(s string) string {
	if len(s) > 256 {
		return s[:256]
	}
	return s
}

func toldRead(s string) api.Sign {
	l := strings.Split(s, ";")
	behind := strings.Join(l[1:], ";")
	second := append(l, "none")[1]
	switch {
	case (l[0] == "133" || l[0] == "633") && len(l) > 1 && second == "A":
		return api.Sign{Kind: 1}
	case (l[0] == "133" || l[0] == "633") && len(l) > 1 && second == "B":
		return api.Sign{Kind: 2}
	case (l[0] == "133" || l[0] == "633") && len(l) > 1 && second == "C":
		return api.Sign{Kind: 3}
	case (l[0] == "133" || l[0] == "633") && len(l) > 1 && second == "D":
		x := api.Sign{Kind: 4}
		if len(l) > 2 {
			x.Code, x.Has = toldCode(l[2])
		}
		return x
	case l[0] == "633" && len(l) > 2 && second == "E":
		return api.Sign{Kind: 5, Text: cut(toldUnescape(l[2]))}
	case l[0] == "633" && len(l) > 2 && second == "P" && len(l[2]) >= 4 && l[2][:4] == "Cwd=":
		return api.Sign{Kind: 6, Text: cut(toldUnescape(l[2][4:]))}
	case l[0] == "1337" && behind == "SetMark":
		return api.Sign{Kind: 7}
	case l[0] == "1337" && len(behind) >= 11 && behind[:11] == "CurrentDir=":
		return api.Sign{Kind: 6, Text: cut(behind[11:])}
	case (l[0] == "0" || l[0] == "2") && len(l) > 1:
		return api.Sign{Kind: 8, Text: cut(behind)}
	}
	if _, path, e := pct.File(behind); l[0] == "7" && e == api.OK {
		return api.Sign{Kind: 6, Text: cut(path)}
	}
	return api.Sign{}
}

func toldWrite(x api.Sign) string {
	words := []string{"", "133;A", "133;B", "133;C", "133;D", "633;E;", "633;P;Cwd=", "1337;SetMark", "2;"}
	if x.Kind < 0 || x.Kind >= len(words) {
		return ""
	}
	told := words[x.Kind]
	switch {
	case x.Kind == 4 && x.Has:
		told += fmt.Sprintf(";%d", x.Code)
	case x.Kind == 5 || x.Kind == 6:
		told += toldEscape(x.Text)
	case x.Kind == 8:
		told += x.Text
	}
	return told
}
