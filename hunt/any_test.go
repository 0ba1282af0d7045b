package hunt_test

import (
	"slices"
	"testing"

	"marquee/api"
	"marquee/find"
	"marquee/hunt"
)

// chance answers numbers that look like chance, the same ones in each run.
func chance() func(n int) int {
	seed := uint64(1)
	return func(n int) int {
		seed = seed*6364136223846793005 + 1442695040888963407
		return int(seed >> 33 % uint64(n))
	}
}

// check holds all that is answered of some needles against what is told.
func check(t *testing.T, text string, needles []string) {
	t.Helper()
	all := toldAll(text, needles)
	if l := hunt.All(text, needles...); !slices.Equal(l, all) {
		t.Fatalf("All(%q, %q): %v, not %v", text, needles, l, all)
	}
	for n := -1; n <= len(all)+1; n++ {
		if l := hunt.First(text, n, needles...); !slices.Equal(l, all[:min(max(n, 0), len(all))]) {
			t.Fatalf("First(%q, %d, %q): %v, of %v", text, n, needles, l, all)
		}
	}
	h := hunt.New(text, needles...)
	for i := range len(all) + 1 {
		left := h.Left()
		x, ok := h.Next()
		if left != len(all)-i || ok != (left > 0) || ok && x != all[i] || !ok && x != (api.Hit{}) {
			t.Fatalf("%q in %q: %v %v, ahead of it %d, of %v", needles, text, x, ok, left, all)
		}
	}
	if l, told := hunt.Longest(text, needles...), toldLongest(text, needles); !slices.Equal(l, told) {
		t.Fatalf("Longest(%q, %q): %v, not %v", text, needles, l, told)
	}
	if s, told := hunt.Replace(text, name, needles...), toldReplace(text, name, needles); s != told {
		t.Fatalf("Replace(%q, %q): %q, not %q", text, needles, s, told)
	}
}

// words are all texts of some bytes, up to a length.
func words(of string, length int) []string {
	all := []string{""}
	for i := 0; i < len(all); i++ {
		if len(all[i]) < length {
			for _, c := range []byte(of) {
				all = append(all, all[i]+string([]byte{c}))
			}
		}
	}
	return all
}

// TestAllShort goes through all pairs of short needles, and all threes of the shortest.
func TestAllShort(t *testing.T) {
	for _, text := range words("ab", 5) {
		for _, a := range words("ab", 3) {
			for _, b := range words("ab", 3) {
				check(t, text, []string{a, b})
			}
		}
		for _, a := range words("ab", 2) {
			for _, b := range words("ab", 2) {
				for _, c := range words("ab", 2) {
					check(t, text, []string{a, b, c})
				}
			}
		}
	}
}

func TestAny(t *testing.T) {
	n := chance()
	piece := func(of string, most int) string {
		b := make([]byte, n(most+1))
		for i := range b {
			b[i] = of[n(len(of))]
		}
		return string(b)
	}
	for range 5000 {
		of := []string{"a", "ab", "abc", "aA\xff\x00"}[n(4)]
		text := piece(of, 25)
		var needles []string
		for range n(12) {
			needles = append(needles, piece(of, 1+n(8)))
		}
		if len(needles) > 1 && n(2) == 0 {
			needles[0] = needles[len(needles)-1]
		}
		check(t, text, needles)
	}
}

// TestEachNeedlesHits holds that each needle's hits are its places.
func TestEachNeedlesHits(t *testing.T) {
	needles := []string{"ab", "", "a", "ba", "ab", "aab"}
	for _, text := range words("ab", 8) {
		places := make([][]int, len(needles))
		for _, x := range hunt.All(text, needles...) {
			places[x.Which] = append(places[x.Which], x.At)
		}
		for i, s := range needles {
			if !slices.Equal(places[i], find.All(text, s)) {
				t.Fatalf("%q in %q: %v", s, text, places[i])
			}
		}
	}
}
