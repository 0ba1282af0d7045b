package screen_test

import (
	"fmt"
	"testing"

	"marquee/api"
	"marquee/chars"
)

// call is something that is done, with a number or two, or (alone) without any.
type call struct {
	name  string
	alone bool
	do    func(b both, n, k int)
}

var calls = []call{
	{"Repeat", false, func(b both, n, _ int) { b.s.Repeat(n); b.m.repeat(n) }},
	{"Back", true, func(b both, _, _ int) { b.s.Back(); b.m.x = max(b.m.in()-1, 0) }},
	{"Return", true, func(b both, _, _ int) { b.s.Return(); b.m.x = 0 }},
	{"Feed", true, func(b both, _, _ int) { b.s.Feed(); b.m.feed() }},
	{"FeedBack", true, func(b both, _, _ int) { b.s.FeedBack(); b.m.feedBack() }},
	{"Tab", false, func(b both, n, _ int) { b.s.Tab(n); b.m.tab(n) }},
	{"Move", false, func(b both, n, k int) { b.move(n, k) }},
	{"Go", false, func(b both, n, k int) { b.s.Go(n, k); b.m.step(n, k) }},
	{"Margins", false, func(b both, n, k int) { b.margins(n, k) }},
	{"EraseLine", false, func(b both, n, _ int) { b.s.EraseLine(n); b.m.eraseLine(n) }},
	{"ErasePage", false, func(b both, n, _ int) { b.s.ErasePage(n); b.m.erasePage(n) }},
	{"EraseChars", false, func(b both, n, _ int) { b.s.EraseChars(n); b.m.eraseChars(n) }},
	{"InsertChars", false, func(b both, n, _ int) { b.s.InsertChars(n); b.m.insertChars(n) }},
	{"DeleteChars", false, func(b both, n, _ int) { b.s.DeleteChars(n); b.m.deleteChars(n) }},
	{"InsertLines", false, func(b both, n, _ int) { b.s.InsertLines(n); b.m.insertLines(n) }},
	{"DeleteLines", false, func(b both, n, _ int) { b.s.DeleteLines(n); b.m.deleteLines(n) }},
	{"Scroll", false, func(b both, n, _ int) { b.s.Scroll(n); b.m.scroll(n) }},
	{"Keep", true, func(b both, _, _ int) { b.s.Keep(); b.m.keep() }},
	{"Restore", true, func(b both, _, _ int) { b.s.Restore(); b.m.restore() }},
	{"Fill", true, func(b both, _, _ int) { b.s.Fill(); b.m.fill() }},
	{"Reset", true, func(b both, _, _ int) { b.s.Reset(); b.m.reset() }},
	{"Follow itself", true, func(b both, _, _ int) { b.s.Follow(b.s); b.m.follow(b.m) }},
	{"Follow nil", true, func(b both, _, _ int) { b.s.Follow(nil) }},
	{"print", false, func(b both, n, k int) { b.print(printed(n ^ k)) }},
	{"Resize", false, func(b both, n, k int) { b.resize(n, k+2, pos(n, k), pos(0, 1), pos(k, n)) }},
	{"Crop", false, func(b both, n, k int) { b.crop(n, k+2) }},
}

// printed is one of some scalars.
func printed(n int) string {
	return []string{"a", "\u3042", "\u0301", "\a", "q", "bc\u3042"}[uint(n)%6]
}

// TestEachCallFromEachState does each call with the cursor anywhere, at the edge, too, in each region, with each option.
func TestEachCallFromEachState(t *testing.T) {
	numbers := append([]int{0, 1, 2, 3, 5}, far...)
	regions := [][2]int{{0, 3}, {0, 1}, {1, 2}, {2, 3}}
	for state := range 4 * 5 * len(regions) * 8 {
		y, x, region := state%4, state/4%5, regions[state/20%len(regions)]
		o := state / 20 / len(regions)
		opts := api.Opts{Put: o&1 > 0, Wrap: o&2 > 0, Home: o&4 > 0}
		for _, c := range calls {
			for i, n := range numbers {
				if c.alone && i > 0 {
					break
				}
				b := newBoth(t, 4, 4, 2)
				b.print("abcdefghi\u3042j\u3042klmn\u3042op\u3042qrs\u3042")
				b.turn([]int{44})
				b.margins(region[0], region[1])
				b.move(y, x)
				if x == 4 {
					b.print("e")
				}
				b.set(opts)
				what := fmt.Sprint(c.name, n, pos(y, x), region, opts)
				b.check("ahead of", what)
				c.do(b, n, numbers[(i+state)%len(numbers)])
				b.check(what)
				b.print("z\u3042")
				b.check("printed behind", what)
			}
		}
	}
}

// TestAnySteps does whatever may be done, right and wrong, and one behind the other.
func TestAnySteps(t *testing.T) {
	pick := chance()
	for _, size := range [][3]int{{1, 2, 0}, {2, 2, 1}, {4, 6, 3}, {5, 20, 9}} {
		b, other := newBoth(t, size[0], size[1], size[2]), newBoth(t, 3, 7, 2)
		for i := range 8000 {
			what := anyStep(b, other, pick)
			b.check(size, i, what)
		}
	}
}

func anyStep(b, other both, pick func(int) int) string {
	b.Helper()
	n, k := pick(9)-2, pick(9)-2
	if pick(20) == 0 {
		n = far[pick(len(far))]
	}
	switch pick(10) {
	case 0, 1, 2, 3:
		b.print(printed(pick(6)))
		return "print"
	case 4:
		b.turn([]int{[]int{0, 1, 31, 42, 44, 49}[pick(6)]}, []int{pick(9)})
		return "Turn"
	case 5:
		b.set(api.Opts{Put: pick(2) > 0, Wrap: pick(3) > 0, Home: pick(2) > 0})
		b.stop(n)
		return "Set"
	case 6:
		b.chars(chars.State{Sets: [4]int{66, 48, 65, 7}, Use: pick(5), Once: pick(4)})
		return "Chars"
	case 7:
		if pick(10) > 0 {
			b.margins(min(n, k), max(n, k))
			return "Margins"
		}
		anyStep(other, other, pick)
		b.s.Follow(other.s)
		b.m.follow(other.m)
		other.check("Follow")
		return "Follow"
	}
	c := calls[pick(len(calls))]
	if (c.name == "Resize" || c.name == "Crop") && n > 5 {
		n -= 3
	}
	c.do(b, n, k)
	return c.name
}
