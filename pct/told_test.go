package pct_test

import (
	"fmt"
	"regexp"
	"strconv"
	"strings"

	"marquee/api"
)

// What the document's words make of addresses, told by patterns, so that nothing of the package's way is repeated.

var (
	unplain   = regexp.MustCompile(`[^a-zA-Z0-9\-._~/]`)
	digits    = regexp.MustCompile(`%[0-9a-fA-F]{2}`)
	anAddress = regexp.MustCompile(`(?s)\A[fF][iI][lL][eE]://([^/]*)(/.*)\z`)
)

func toldLay(s string) string {
	return unplain.ReplaceAllStringFunc(s, func(other string) string {
		var laid string
		for _, c := range []byte(other) {
			laid += fmt.Sprintf("%%%02X", c)
		}
		return laid
	})
}

func toldTake(s string) string {
	return digits.ReplaceAllStringFunc(s, func(byteOf string) string {
		n, err := strconv.ParseUint(byteOf[1:], 16, 8)
		if err != nil {
			panic(err)
		}
		return string([]byte{byte(n)})
	})
}

func toldStrict(s string) (string, bool) {
	if strings.Contains(digits.ReplaceAllString(s, "-"), "%") {
		return "", false
	}
	return toldTake(s), true
}

func toldFile(s string) (string, string, api.Errno) {
	m := anAddress.FindStringSubmatch(s)
	if m == nil {
		return "", "", api.ErrForm
	}
	return m[1], toldTake(m[2]), api.OK
}

func toldMake(host, path string) (string, api.Errno) {
	if path == "" || path[0] != '/' || strings.Count(host, "/") > 0 {
		return "", api.ErrForm
	}
	return "file://" + host + toldLay(path), api.OK
}
