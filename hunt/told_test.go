package hunt_test

import (
	"strings"

	"marquee/api"
)

// toldAll is all hits, place by place, and needle by needle.
func toldAll(text string, needles []string) []api.Hit {
	var l []api.Hit
	for at := range len(text) {
		for i, s := range needles {
			if s != "" && strings.HasPrefix(text[at:], s) {
				l = append(l, api.Hit{At: at, Which: i})
			}
		}
	}
	return l
}

// toldLongest takes, of all hits, the best one that isn't ahead of an end, and so on.
func toldLongest(text string, needles []string) []api.Hit {
	var l []api.Hit
	for end := 0; ; {
		best := -1
		all := toldAll(text, needles)
		for i, x := range all {
			if x.At >= end && (best < 0 || toldBetter(needles, x, all[best])) {
				best = i
			}
		}
		if best < 0 {
			return l
		}
		l = append(l, all[best])
		end = all[best].At + len(needles[all[best].Which])
	}
}

// toldBetter tells whether a hit is rather taken than another one.
func toldBetter(needles []string, x, y api.Hit) bool {
	long, other := len(needles[x.Which]), len(needles[y.Which])
	switch {
	case x.At != y.At:
		return x.At < y.At
	case long != other:
		return long > other
	}
	return x.Which < y.Which
}

// toldReplace puts what stands instead into the text from its end on, so that places ahead stay as they are.
func toldReplace(text string, with func(i int) string, needles []string) string {
	l := toldLongest(text, needles)
	for i := len(l) - 1; i >= 0; i-- {
		at, behind := l[i].At, l[i].At+len(needles[l[i].Which])
		text = text[:at] + with(l[i].Which) + text[behind:]
	}
	return text
}
