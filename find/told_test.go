package find_test

// toldStands tells whether a needle stands at a place, byte by byte.
func toldStands(text, needle string, at int, loosely bool) bool {
	if needle == "" || at < 0 || at > len(text) || len(needle) > len(text)-at {
		return false
	}
	for i := range len(needle) {
		a, b := text[at+i], needle[i]
		if loosely {
			a, b = toldSmall(a), toldSmall(b)
		}
		if a != b {
			return false
		}
	}
	return true
}

func toldSmall(c byte) byte {
	const big, small = "ABCDEFGHIJKLMNOPQRSTUVWXYZ", "abcdefghijklmnopqrstuvwxyz"
	for i := range len(big) {
		if c == big[i] {
			return small[i]
		}
	}
	return c
}

func toldAll(text, needle string, loosely bool) []int {
	var l []int
	for at := range len(text) {
		if toldStands(text, needle, at, loosely) {
			l = append(l, at)
		}
	}
	return l
}

func toldNext(text, needle string, from int) (int, bool) {
	for at := range len(text) {
		if at >= from && toldStands(text, needle, at, false) {
			return at, true
		}
	}
	return 0, false
}

func toldAhead(text, needle string, from int) (int, bool) {
	for at := len(text); at >= 0; at-- {
		if at < from && toldStands(text, needle, at, false) {
			return at, true
		}
	}
	return 0, false
}

func toldApart(text, needle string) []int {
	var l []int
	for at := 0; at < len(text); {
		if toldStands(text, needle, at, false) {
			l = append(l, at)
			at += len(needle)
		} else {
			at++
		}
	}
	return l
}
