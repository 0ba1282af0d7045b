package find_test

import (
	"slices"
	"strings"
	"testing"

	"marquee/find"
)

// chance answers numbers that look like chance, the same ones in each run.
func chance() func(n int) int {
	seed := uint64(1)
	return func(n int) int {
		seed = seed*6364136223846793005 + 1442695040888963407
		return int(seed >> 33 % uint64(n))
	}
}

// check holds all that is answered of a needle against what is told, from all places.
func check(t *testing.T, text, needle string) {
	t.Helper()
	all := toldAll(text, needle, false)
	for _, x := range []struct {
		what      string
		got, told []int
	}{
		{"All", find.All(text, needle), all},
		{"Loose", find.Loose(text, needle), toldAll(text, needle, true)},
		{"Apart", find.Apart(text, needle), toldApart(text, needle)},
	} {
		if !slices.Equal(x.got, x.told) {
			t.Fatalf("%s(%q, %q): %v, not %v", x.what, text, needle, x.got, x.told)
		}
	}
	if n := find.Count(text, needle); n != len(all) {
		t.Fatalf("Count(%q, %q): %d, not %d", text, needle, n, len(all))
	}
	for from := -1; from <= len(text)+1; from++ {
		at, ok := find.Next(text, needle, from)
		if told, is := toldNext(text, needle, from); at != told || ok != is {
			t.Fatalf("Next(%q, %q, %d): %d %v, not %d %v", text, needle, from, at, ok, told, is)
		}
		at, ok = find.Ahead(text, needle, from)
		if told, is := toldAhead(text, needle, from); at != told || ok != is {
			t.Fatalf("Ahead(%q, %q, %d): %d %v, not %d %v", text, needle, from, at, ok, told, is)
		}
	}
}

// words are all texts of some bytes, up to a length.
func words(of string, length int) []string {
	all := []string{""}
	for i := 0; i < len(all); i++ {
		if len(all[i]) < length {
			for _, c := range []byte(of) {
				all = append(all, all[i]+string([]byte{c}))
			}
		}
	}
	return all
}

func TestAllShort(t *testing.T) {
	for _, text := range words("ab", 8) {
		for _, needle := range words("ab", 5) {
			check(t, text, needle)
		}
	}
	for _, text := range words("aAb", 5) {
		for _, needle := range words("aAb", 4) {
			check(t, text, needle)
		}
	}
}

// TestEachByte holds each byte against each other one, loosely too.
func TestEachByte(t *testing.T) {
	for a := range 256 {
		for b := range 256 {
			check(t, string([]byte{'x', byte(a)}), string([]byte{byte(b)}))
		}
	}
}

// TestAny looks for pieces of long texts whose bytes are alike, in them.
func TestAny(t *testing.T) {
	n := chance()
	for range 3000 {
		of := []string{"a", "ab", "aA", "abc", "aAbBzZ[{", "\x00\x80\xff"}[n(6)]
		var b strings.Builder
		for range 1 + n(60) {
			if s := b.String(); n(6) == 0 && s != "" { // the same once more
				b.WriteString(s[n(len(s)):])
			}
			b.WriteByte(of[n(len(of))])
		}
		text := b.String()
		text = text[:min(len(text), 200)]
		from := n(len(text))
		needle := text[from : from+n(len(text)-from)+1]
		if n(4) == 0 {
			needle += of[:1]
		}
		if n(4) == 0 {
			needle = strings.ToUpper(needle)
		}
		check(t, text, needle)
	}
}

// TestLonger holds that places of a text are those of a longer one, from where it begins.
func TestLonger(t *testing.T) {
	n := chance()
	for range 2000 {
		piece := func(most int) string {
			b := make([]byte, n(most))
			for i := range b {
				b[i] = "aAb"[n(3)]
			}
			return string(b)
		}
		ahead, text, behind, needle := piece(10), piece(20), piece(10), piece(5)
		long := find.All(ahead+text+behind, needle)
		longLoose := find.Loose(ahead+text+behind, needle)
		for _, at := range find.All(text, needle) {
			if !slices.Contains(long, len(ahead)+at) {
				t.Fatalf("%q in %q + %q + %q: %v", needle, ahead, text, behind, long)
			}
		}
		for _, at := range find.Loose(text, needle) {
			if !slices.Contains(longLoose, len(ahead)+at) {
				t.Fatalf("loosely %q in %q + %q + %q: %v", needle, ahead, text, behind, longLoose)
			}
		}
	}
}
