package term_test

import (
	"slices"
	"testing"

	"marquee/api"
	"marquee/mode"
)

// rows is three rows of text, and the cursor behind the second one's b.
const rows = "abcdef\r\nghijkl\r\nmnopqr\x1b[2;3H"

func TestControlBytes(t *testing.T) {
	for _, x := range []struct {
		fed  string
		at   api.Pos
		want string
	}{
		{"abc\bd", pos(0, 3), "abd___/______/______"},
		{"abcdef\bg", pos(0, 5), "abcdgf/______/______"}, // from the edge
		{"\b\ba", pos(0, 1), "a_____/______/______"},
		{"a\tb", pos(0, 6), "a____b/______/______"}, // the last column: there is no stop behind
		{"a\nb", pos(1, 2), "a_____/_b____/______"},
		{"a\vb\fc", pos(2, 3), "a_____/_b____/__c___"},
		{"a\r\nb\r\nc\r\nd", pos(2, 1), "a_____//b_____/c_____/d_____"},
		{"abc\rd", pos(0, 1), "dbc___/______/______"},
		{"\x1b[20ha\nb\vc\fd", pos(2, 1), "a_____//b_____/c_____/d_____"},
		{"\x1b[20ha\x1bDb", pos(1, 2), "a_____/_b____/______"}, // it is of the bytes alone
		{"\x1b)0a\x0eqa\x0fq", pos(0, 4), "a\u2500\u2592q__/______/______"},
		{"a\x00\x01\x07\x18\x1a\x1c\x7fb", pos(0, 2), "ab____/______/______"},
		{"\x1b[2\r;\n3Ha", pos(1, 3), "______/__a___/______"}, // within a sequence, too: a and b are lost by the move
		{"a\u0085b\u008dc\u0084d", pos(1, 3), "ac____/b_d___/______"},
	} {
		shows(t, small(t, x.fed), x.fed, x.at, x.want)
	}
}

func TestPrint(t *testing.T) {
	for _, x := range []struct {
		fed  string
		at   api.Pos
		want string
	}{
		{"", pos(0, 0), "______/______/______"},
		{"abcdef", pos(0, 6), "abcdef/______/______"},
		{"abcdefg", pos(1, 1), "abcdef/+g_____/______"},
		{"abcde\u3042", pos(1, 2), "abcde|/+\u3042____/______"},
		{"a\u0301b", pos(0, 2), "a\u0301b____/______/______"},
		{"a\xe3b\xff", pos(0, 4), "a\ufffdb\ufffd__/______/______"},
		{"a\x1b[4hb\x1b[H\u3042c\x1b[4l\x1b[Hd", pos(0, 1), "d_cab_/______/______"},
		{"\x1b[?7labcdefgh", pos(0, 6), "abcdeh/______/______"},
		{"\x1b[?7labcdefg\x1b[?7hh", pos(1, 1), "abcdeg/+h_____/______"},
		{"\x1b[44m\x1b[4ha\x1b[H\x1b[Jb", pos(0, 1), "b...../....../......"},
		{"ab\x1b[3b", pos(0, 5), "abbbb_/______/______"},
		{"ab\x1b[b\x1b[0b", pos(0, 4), "abbb__/______/______"},
		{"\x1b[5ba", pos(0, 1), "a_____/______/______"},
		{"a\x1b[65535b", pos(2, 1), "aaaaaa//+aaaaaa/+aaaaaa/+a_____"}, // as often as there are cells
	} {
		shows(t, small(t, x.fed), x.fed, x.at, x.want)
	}
}

func TestEscapes(t *testing.T) {
	for _, x := range []struct {
		fed  string
		at   api.Pos
		want string
	}{
		{"ab\x1b7\x1b[31;44m\n\x1b8c", pos(0, 3), "abc___/______/______"},
		{"ab\x1b8c", pos(0, 1), "cb____/______/______"}, // nothing was kept
		{"ab\x1bDc", pos(1, 3), "ab____/__c___/______"},
		{"ab\x1bEc", pos(1, 1), "ab____/c_____/______"},
		{"ab\r\ncd\x1bMe", pos(0, 3), "abe___/cd____/______"},
		{"ab\x1bMc", pos(0, 3), "__c___/ab____/______"},
		{"ab\x1bH\r\tc\r\n\tc", pos(1, 3), "abc___/__c___/______"},
		{"abcdef\x1bH\x1b[H\tg", pos(0, 6), "abcdeg/______/______"}, // In
		{"\x1b(0lqk\x1b(Bl", pos(0, 4), "\u250c\u2500\u2510l__/______/______"},
		{"\x1b(A##\x1b(B#", pos(0, 3), "\u00a3\u00a3#___/______/______"},
		{"\x1b*0\x1b+Aq\x1bnq#\x1boq#\x1b(0\x0fq", pos(0, 6), "q\u2500#q\u00a3\u2500/______/______"},
		{"\x1b*0\x1b+A\x1bNqq\x1bO##", pos(0, 4), "\u2500q\u00a3#__/______/______"},
		{"\x1b(1\x1b-0\x1b((0q", pos(0, 1), "q_____/______/______"}, // they name no set
		{"\x1b[44mab\x1b#8", pos(0, 0), "EEEEEE/EEEEEE/EEEEEE"},
		{rows + "\x1b#3\x1b#\x1b(8\x1b##8\x1ba\x1b9\x1b\x20D\x1b#c\x1b#7z", pos(1, 3), "abcdef/ghzjkl/mnopqr"},
	} {
		shows(t, small(t, x.fed), x.fed, x.at, x.want)
	}
}

func TestMoves(t *testing.T) {
	for _, x := range []struct {
		fed string
		at  api.Pos
	}{
		{"A", pos(0, 2)}, {"0A", pos(0, 2)}, {"9A", pos(0, 2)}, {"B", pos(2, 2)}, {"9B", pos(2, 2)},
		{"C", pos(1, 3)}, {"2C", pos(1, 4)}, {"9C", pos(1, 5)}, {"D", pos(1, 1)}, {"2D", pos(1, 0)}, {"9D", pos(1, 0)},
		{"E", pos(2, 0)}, {"9E", pos(2, 0)}, {"F", pos(0, 0)}, {"9F", pos(0, 0)},
		{"G", pos(1, 0)}, {"5G", pos(1, 4)}, {"0G", pos(1, 0)}, {"99G", pos(1, 5)}, {"`", pos(1, 0)}, {"5`", pos(1, 4)},
		{"d", pos(0, 2)}, {"3d", pos(2, 2)}, {"99d", pos(2, 2)},
		{"H", pos(0, 0)}, {"3H", pos(2, 0)}, {"3;5H", pos(2, 4)}, {";5H", pos(0, 4)}, {"0;0H", pos(0, 0)}, {"99;99H", pos(2, 5)}, {"65535;65535H", pos(2, 5)},
		{"f", pos(0, 0)}, {"3;5f", pos(2, 4)},
		{"I", pos(1, 5)}, {"0I", pos(1, 5)}, {"Z", pos(1, 0)}, {"9Z", pos(1, 0)},
		{"a", pos(1, 3)}, {"2a", pos(1, 4)}, {"e", pos(2, 2)}, {"9e", pos(2, 2)},
		{"s\x1b[H\x1b[u", pos(1, 2)}, {"u", pos(0, 0)},
		{"3:9;5:9H", pos(2, 4)}, {"1;2;3A", pos(0, 2)},
		{"i", pos(1, 2)}, {"j", pos(1, 2)}, {"k", pos(1, 2)}, {"y", pos(1, 2)}, {"~", pos(1, 2)}, {"N", pos(1, 2)},
		{"?A", pos(1, 2)}, {">A", pos(1, 2)}, {"=A", pos(1, 2)}, {"<A", pos(1, 2)}, {" A", pos(1, 2)}, {"$A", pos(1, 2)}, {"!A", pos(1, 2)}, {"?H", pos(1, 2)},
	} {
		shows(t, small(t, rows+"\x1b["+x.fed), x.fed, x.at, "abcdef/ghijkl/mnopqr")
	}
}

func TestMovesFromTheEdge(t *testing.T) {
	for _, x := range []struct {
		fed string
		at  api.Pos
	}{
		{"A", pos(0, 5)}, {"B", pos(2, 5)}, {"C", pos(1, 5)}, {"D", pos(1, 4)}, {"G", pos(1, 0)}, {"3G", pos(1, 2)}, {"6G", pos(1, 5)}, {"3`", pos(1, 2)},
		{"d", pos(0, 5)}, {"I", pos(1, 5)}, {"Z", pos(1, 0)}, {"s\x1b[H\x1b[u", pos(1, 5)}, {"m", pos(1, 6)},
	} {
		shows(t, small(t, rows+"\x1b[2;6Hl\x1b["+x.fed), x.fed, x.at, "abcdef/ghijkl/mnopqr")
	}
}

func TestEdits(t *testing.T) {
	for _, x := range []struct {
		fed  string
		at   api.Pos
		want string
	}{
		{"@", pos(1, 2), "abcdef/gh_ijk/mnopqr"},
		{"2@", pos(1, 2), "abcdef/gh__ij/mnopqr"},
		{"0@", pos(1, 2), "abcdef/gh_ijk/mnopqr"},
		{"J", pos(1, 2), "abcdef/gh____/______"},
		{"0J", pos(1, 2), "abcdef/gh____/______"},
		{"1J", pos(1, 2), "______/___jkl/mnopqr"},
		{"2J", pos(1, 2), "______/______/______"},
		{"?2J", pos(1, 2), "______/______/______"},
		{"?J", pos(1, 2), "abcdef/gh____/______"},
		{"4J", pos(1, 2), "abcdef/ghijkl/mnopqr"},
		{"K", pos(1, 2), "abcdef/gh____/mnopqr"},
		{"1K", pos(1, 2), "abcdef/___jkl/mnopqr"},
		{"2K", pos(1, 2), "abcdef/______/mnopqr"},
		{"?1K", pos(1, 2), "abcdef/___jkl/mnopqr"},
		{"3K", pos(1, 2), "abcdef/ghijkl/mnopqr"},
		{"L", pos(1, 0), "abcdef/______/ghijkl"},
		{"9L", pos(1, 0), "abcdef/______/______"},
		{"M", pos(1, 0), "abcdef/mnopqr/______"},
		{"P", pos(1, 2), "abcdef/ghjkl_/mnopqr"},
		{"3P", pos(1, 2), "abcdef/ghl___/mnopqr"},
		{"S", pos(1, 2), "abcdef//ghijkl/mnopqr/______"},
		{"2S", pos(1, 2), "abcdef/ghijkl//mnopqr/______/______"},
		{"0S", pos(1, 2), "abcdef//ghijkl/mnopqr/______"},
		{"T", pos(1, 2), "______/abcdef/ghijkl"},
		{"2T", pos(1, 2), "______/______/abcdef"},
		{"X", pos(1, 2), "abcdef/gh_jkl/mnopqr"},
		{"2X", pos(1, 2), "abcdef/gh__kl/mnopqr"},
		{"44m\x1b[2X", pos(1, 2), "abcdef/gh..kl/mnopqr"},
		{"2S\x1b[3J", pos(1, 2), "mnopqr/______/______"},
		{"?2S", pos(1, 2), "abcdef/ghijkl/mnopqr"},
		{"?2X", pos(1, 2), "abcdef/ghijkl/mnopqr"},
		{">2J", pos(1, 2), "abcdef/ghijkl/mnopqr"},
		{"2 J", pos(1, 2), "abcdef/ghijkl/mnopqr"},
		{"?2$J", pos(1, 2), "abcdef/ghijkl/mnopqr"},
	} {
		shows(t, small(t, rows+"\x1b["+x.fed), x.fed, x.at, x.want)
	}
}

func TestMargins(t *testing.T) {
	for _, x := range []struct {
		fed         string
		top, bottom int
		at          api.Pos
	}{
		{"2;3r", 1, 2, pos(0, 0)}, {"1;2r", 0, 1, pos(0, 0)}, {"2r", 1, 2, pos(0, 0)}, {"2;0r", 1, 2, pos(0, 0)}, {"r", 0, 2, pos(0, 0)}, {";2r", 0, 1, pos(0, 0)}, {"0;2r", 0, 1, pos(0, 0)},
		{"2;3r\x1b[r", 0, 2, pos(0, 0)}, {"1;2r\x1b[2;3H\x1b[2;2r", 0, 1, pos(1, 2)}, {"3;2r", 0, 2, pos(1, 2)}, {"2;4r", 0, 2, pos(1, 2)}, {"3r", 0, 2, pos(1, 2)}, {"?1;2r", 0, 2, pos(1, 2)},
		{"2;3r\x1b[?6h", 1, 2, pos(1, 0)}, {"?6h\x1b[2;3r", 1, 2, pos(1, 0)}, {"2;3r\x1b[?6h\x1b[2;2H", 1, 2, pos(2, 1)}, {"2;3r\x1b[?6h\x1b[9d", 1, 2, pos(2, 0)}, {"2;3r\x1b[?6h\x1b[?6l", 1, 2, pos(0, 0)},
	} {
		term := small(t, rows+"\x1b["+x.fed)
		if s := term.Screen().State(); s.Top != x.top || s.Bottom != x.bottom || s.At != x.at {
			t.Errorf("%q: %v", x.fed, s)
		}
	}
}

func TestStops(t *testing.T) {
	for _, x := range []struct {
		fed  string
		want []int
	}{
		{"", []int{0, 8, 16}},
		{"\x1b[4G\x1bH\x1b[10G\x1bH", []int{0, 3, 8, 9, 16}},
		{"\x1b[9G\x1b[g", []int{0, 16}},
		{"\x1b[9G\x1b[0g", []int{0, 16}},
		{"\x1b[9G\x1b[1g\x1b[2g\x1b[4g\x1b[?0g\x1b[?3g", []int{0, 8, 16}},
		{"\x1b[3g", nil},
		{"\x1b[20Ga\x1bH", []int{0, 8, 16, 19}}, // at the edge
		{"\x1b[20Ga\x1bH\x1b[g", []int{0, 8, 16}},
		{"\x1b[3g\x1b[4G\x1bH\x1bc", []int{0, 8, 16}},
		{"\x1b[?47h\x1b[3g\x1b[?47l", []int{0, 8, 16}}, // they are the other screen's
		{"\x1b[3g\x1b[!p", nil},
	} {
		term := newTerm(t, 3, 20, 0, 9)
		term.Feed([]byte(x.fed))
		if got := term.Screen().Stops().List(); !slices.Equal(got, x.want) {
			t.Errorf("%q: %v, not %v", x.fed, got, x.want)
		}
	}
}

func TestReplies(t *testing.T) {
	for _, x := range [][2]string{
		{"\x1bZ", "\x1b[?62;22c"}, {"\x1b[c", "\x1b[?62;22c"}, {"\x1b[0c", "\x1b[?62;22c"}, {"\x1b[;1c", "\x1b[?62;22c"}, {"\x1b[1c", ""}, {"\x1b[?c", ""}, {"\x1b[=c", ""},
		{"\x1b[>c", "\x1b[>1;10;0c"}, {"\x1b[>0c", "\x1b[>1;10;0c"}, {"\x1b[>1c", ""}, {"\x1b[>n", ""}, {"\x1b[>0$c", ""},
		{"\x1b[5n", "\x1b[0n"}, {"\x1b[?5n", ""}, {"\x1b[n", ""}, {"\x1b[0n", ""}, {"\x1b[7n", ""}, {"\x1b[>5n", ""}, {"\x1b[5$n", ""},
		{"\x1b[6n", "\x1b[1;1R"}, {"a\x1b[6n", "\x1b[1;2R"}, {"\x1b[3;4H\x1b[6n", "\x1b[3;4R"}, {"abcdef\x1b[6n", "\x1b[1;6R"},
		{"\x1b[2;3r\x1b[?6h\x1b[2;2H\x1b[6n", "\x1b[2;2R"}, {"\x1b[2;3r\x1b[3;2H\x1b[6n", "\x1b[3;2R"},
		{"\x1b[?6h\x1b7\x1b[2;3r\x1b8\x1b[6n", "\x1b[1;1R"}, // ahead of the margin
		{"\x1b[?6n", "\x1b[?1;1R"}, {"\x1b[2;3r\x1b[?6h\x1b[2;2H\x1b[?6n", "\x1b[?2;2R"}, {"abcdef\x1b[?6n", "\x1b[?1;6R"}, {"\n\n\n\n\x1b[6n", "\x1b[3;1R"},
		{"\x1b[18t", "\x1b[8;3;6t"}, {"\x1b[t", ""}, {"\x1b[14t", ""}, {"\x1b[?18t", ""}, {"\x1b[0;18t", ""},
		{"\x1b[4$p", "\x1b[4;2$y"}, {"\x1b[4h\x1b[4$p", "\x1b[4;1$y"}, {"\x1b[20;4$p", "\x1b[20;2$y"}, {"\x1b[7$p", "\x1b[7;0$y"}, {"\x1b[$p", "\x1b[0;0$y"},
		{"\x1b[?7$p", "\x1b[?7;1$y"}, {"\x1b[?6$p", "\x1b[?6;2$y"}, {"\x1b[?4$p", "\x1b[?4;0$y"}, {"\x1b[?65535$p", "\x1b[?65535;0$y"}, {"\x1b[>7$p", ""}, {"\x1b[?7$q", ""}, {"\x1b[?7p", ""}, {"\x1b[7p", ""}, {"\x1b[7\"p", ""}, {"\x1b[?7!p", ""}, {"\x1b[7$$p", ""},
		{"\x1bP$qm\x1b\\", "\x1bP1$r0m\x1b\\"}, {"\x1b[1;31m\x1bP$qm\x1b\\", "\x1bP1$r0;1;38;5;1m\x1b\\"}, {"\x1bP$qr\x1b\\", "\x1bP1$r1;3r\x1b\\"}, {"\x1b[2;3r\x1bP$qr\x1b\\", "\x1bP1$r2;3r\x1b\\"},
		{"\x1bP$qx\x1b\\", "\x1bP0$r\x1b\\"}, {"\x1bP$q\x1b\\", "\x1bP0$r\x1b\\"}, {"\x1bP1;2$qm\x1b\\", "\x1bP1$r0m\x1b\\"},
		{"\x1bP?$qm\x1b\\", ""}, {"\x1bPqm\x1b\\", ""}, {"\x1bP$pm\x1b\\", ""}, {"\x1bP$$qm\x1b\\", ""}, {"\x1bP!qm\x1b\\", ""}, {"\x1bP$qm\x18", ""}, {"\x1bP$qm", ""},
		{"\x1b[5n\x1b[?47h\x1b[2;2H\x1b[6n\x1b[?47l\x1b[c", "\x1b[0n\x1b[2;2R\x1b[?62;22c"},
		{"\x1b[?47h\x1b[31m\x1bP$qm\x1b\\\x1b[1;2r\x1bP$qr\x1b\\", "\x1bP1$r0;38;5;1m\x1b\\\x1bP1$r1;2r\x1b\\"},
		{"a\r\n\t\x1b[31m\x1b]2;t\a\x1bc", ""},
	} {
		if got := small(t, x[0]).Reply(); got != x[1] {
			t.Errorf("%q: %q, not %q", x[0], got, x[1])
		}
	}
}

func TestModes(t *testing.T) {
	for _, x := range []struct {
		fed  string
		want []string
	}{
		{"", []string{"?7", "?25"}},
		{"\x1b[4h", []string{"4", "?7", "?25"}},
		{"\x1b[4;20h", []string{"4", "20", "?7", "?25"}},
		{"\x1b[4:20h", []string{"4", "?7", "?25"}}, // one group
		{"\x1b[4;20h\x1b[4l", []string{"20", "?7", "?25"}},
		{"\x1b[?1;5;6;66;1000;1002;1003;1004;1006;2004h", []string{"?1", "?5", "?6", "?7", "?25", "?66", "?1000", "?1002", "?1003", "?1004", "?1006", "?2004"}},
		{"\x1b[?7;25l", nil},
		{"\x1b[7l\x1b[25l\x1b[?4h\x1b[?20h\x1b[?3h\x1b[h\x1b[;h\x1b[?h\x1b[?0h", []string{"?7", "?25"}}, // none such
		{"\x1b[>4h\x1b[=20h\x1b[4$h\x1b[?1$h\x1b[?7$l\x1b[4!h", []string{"?7", "?25"}},
		{"\x1b[;4h", []string{"4", "?7", "?25"}},
		{"\x1b=", []string{"?7", "?25", "?66"}},
		{"\x1b=\x1b>", []string{"?7", "?25"}},
		{"\x1b[?66h\x1b>", []string{"?7", "?25"}},
		{"\x1b[?47h", []string{"?7", "?25", "?47", "?1047", "?1049"}},
		{"\x1b[?1047h", []string{"?7", "?25", "?47", "?1047", "?1049"}},
		{"\x1b[?1049h", []string{"?7", "?25", "?47", "?1047", "?1049"}},
		{"\x1b[?1049h\x1b[?47l", []string{"?7", "?25"}},
		{"\x1b[?1049;1l", []string{"?7", "?25"}},
		{"\x1b[?1048h", []string{"?7", "?25", "?1048"}},
		{"\x1b[?1048h\x1b[?1048l", []string{"?7", "?25"}},
		{"\x1b[?6h\x1b7\x1b[?6l\x1b8", []string{"?6", "?7", "?25"}},
		{"\x1b[?6h\x1b8", []string{"?7", "?25"}}, // nothing was kept
		{"\x1b7\x1b[?6h\x1b8", []string{"?7", "?25"}},
		{"\x1b[?6h\x1b[s\x1b[?6l\x1b[u", []string{"?6", "?7", "?25"}},
		{"\x1b[?6;1048h\x1b[?6l\x1b[?1048l", []string{"?6", "?7", "?25"}},
		{"\x1b[?6h\x1b[?1049h\x1b[?6l\x1b[?1049l", []string{"?6", "?7", "?25"}},
		{"\x1b[?6h\x1b[?47h\x1b[?6l\x1b[?47l", []string{"?7", "?25"}},
		{"\x1b[4;20h\x1b[?6;66;1000;1048h\x1b[?7;25l\x1b[!p", []string{"20", "?7", "?25", "?66", "?1000", "?1048"}},
		{"\x1b[4;20h\x1b[?6;66;1000;1049h\x1b[?7;25l\x1bc", []string{"?7", "?25"}},
		{"\x1b[?4!p\x1b[4h\x1b[>!p\x1b[p\x1b[?p\x1b[!q", []string{"4", "?7", "?25"}},
	} {
		want, e := mode.Parse(x.want...)
		if got := small(t, x.fed).Modes(); got != want || e != api.OK {
			t.Errorf("%q: %v, not %v", x.fed, got.List(), x.want)
		}
	}
}

func TestOptionsAreModes(t *testing.T) {
	for _, x := range []struct {
		fed  string
		want api.Opts
	}{
		{"", api.Opts{Wrap: true}},
		{"\x1b[4h", api.Opts{Put: true, Wrap: true}},
		{"\x1b[?6h", api.Opts{Wrap: true, Home: true}},
		{"\x1b[?7l", api.Opts{}},
		{"\x1b[4h\x1b[?6h\x1b[!p", api.Opts{Wrap: true}},
		{"\x1b[4h\x1b[?6h\x1bc", api.Opts{Wrap: true}},
		{"\x1b[?6h\x1b7\x1b[?6l\x1b8", api.Opts{Wrap: true, Home: true}},
		{"\x1b[4h\x1b[?47h\x1b[?7l", api.Opts{Put: true}},
		{"\x1b[?47h\x1b[?6h\x1b[4h\x1b[!p", api.Opts{Wrap: true}},
	} {
		term := small(t, x.fed)
		if got := term.Screen().State().Opts; got != x.want {
			t.Errorf("%q: %v, not %v", x.fed, got, x.want)
		}
		if got := term.First().State().Opts; got != x.want {
			t.Errorf("%q: the first one: %v, not %v", x.fed, got, x.want)
		}
		term.Feed([]byte("\x1b[?1049h"))
		if got := term.Screen().State().Opts; got != x.want {
			t.Errorf("%q: the other one: %v, not %v", x.fed, got, x.want)
		}
	}
}

func TestOtherScreen(t *testing.T) {
	for _, x := range []struct {
		fed         string
		other       bool
		at          api.Pos
		want, first string
	}{
		{"ab\x1b[?47h", true, pos(0, 2), "______/______/______", "ab____/______/______"},
		{"ab\x1b[?47hcd", true, pos(0, 4), "__cd__/______/______", "ab____/______/______"},
		{"ab\x1b[?1047hcd", true, pos(0, 4), "__cd__/______/______", "ab____/______/______"},
		{"ab\x1b[?1049hcd", true, pos(0, 4), "__cd__/______/______", "ab____/______/______"},
		{"ab\x1b[?47hcd\x1b[?47le", false, pos(0, 5), "ab__e_/______/______", "ab__e_/______/______"},
		{"ab\x1b[?1047hcd\x1b[?1047le", false, pos(0, 5), "ab__e_/______/______", "ab__e_/______/______"},
		{"ab\x1b[?1049hcd\x1b[?1049le", false, pos(0, 3), "abe___/______/______", "abe___/______/______"},
		{"ab\x1b[?1049hcd\x1b[?47le", false, pos(0, 5), "ab__e_/______/______", "ab__e_/______/______"},
		{"ab\x1b7\x1b[?47hcd\x1b[?1049le", false, pos(0, 3), "abe___/______/______", "abe___/______/______"},
		{"ab\x1b[?47hcd\x1b[?1049le", false, pos(0, 1), "eb____/______/______", "eb____/______/______"}, // nothing was kept
		{"ab\x1b[?47hcd\x1b[?47l\x1b[?47h", true, pos(0, 4), "__cd__/______/______", "ab____/______/______"},
		{"ab\x1b[?47hcd\x1b[?47l\x1b[?1047h", true, pos(0, 4), "__cd__/______/______", "ab____/______/______"},
		{"ab\x1b[?47hcd\x1b[?47l\x1b[?1049h", true, pos(0, 4), "______/______/______", "ab____/______/______"},
		{"ab\x1b[44m\x1b[?1049h", true, pos(0, 2), "....../....../......", "ab____/______/______"},
		{"ab\x1b[?1049hcd\x1b[?1049he", true, pos(0, 5), "__cde_/______/______", "ab____/______/______"}, // it is in use
		{"ab\x1b[?1049hcd\x1b[?1049h\x1b[?1049le", false, pos(0, 3), "abe___/______/______", "abe___/______/______"},
		{"ab\x1b7cd\x1b[?1049le", false, pos(0, 5), "abcde_/______/______", "abcde_/______/______"},
		{"ab\x1b[?47hcd\x1b7\x1b[H\x1b[?1049le", false, pos(0, 1), "eb____/______/______", "eb____/______/______"}, // what is kept is the other one's
		{"abcdef\x1b[?47hg", true, pos(0, 6), "_____g/______/______", "abcdef/______/______"},
		{"abcdef\x1b[?47h\x1b[?47lg", false, pos(0, 6), "abcdeg/______/______", "abcdeg/______/______"},
		{"\x1b[?47h\n\n\n\n\x1b[La\x1b[?47l", false, pos(2, 1), "______/______/______", "______/______/______"},
		{"a\x1b[?47hb\x1bc", false, pos(0, 0), "______/______/______", "______/______/______"},
		{"a\x1b[?47hb\x1bc\x1b[?47h", true, pos(0, 0), "______/______/______", "______/______/______"},
		{"a\x1b[47hb\x1b[1049hc", false, pos(0, 3), "abc___/______/______", "abc___/______/______"},
	} {
		term := small(t, x.fed)
		shows(t, term, x.fed, x.at, x.want)
		if got := seen(term.First()); got != x.first || term.Other() != x.other || (term.Screen() == term.First()) == x.other {
			t.Errorf("%q: %v, the first one: %s, not %s", x.fed, term.Other(), got, x.first)
		}
	}
}

func TestOtherScreenFollows(t *testing.T) {
	x := small(t, "\x1b[31m\x1b(0\x1b[?47h")
	if a, b := x.Screen().State(), x.First().State(); a.Attr != b.Attr || a.Chars != b.Chars || a.Attr == (api.Attr{}) {
		t.Error("the other one", a, b)
	}
	x.Feed([]byte("\x1b[1m\x1b(B\x1b[?47l"))
	if s := x.Screen().State(); s.Attr.Flags != api.Bold || s.Chars.Sets[0] != 'B' {
		t.Error("the first one", s)
	}
	x.Feed([]byte("\x1b[?1049h\x1b[m\x1b)0\x1b[?1049l"))
	if s := x.Screen().State(); s.Attr.Flags != api.Bold || s.Chars.Sets[1] != 'B' {
		t.Error("what was kept", s)
	}
	x.Feed([]byte("\x1b[2;3r\x1b[?47h"))
	if s := x.Screen().State(); s.Top != 0 || s.Bottom != 2 {
		t.Error("its region is its own", s)
	}
}

func TestReset(t *testing.T) {
	x := small(t, "ab\x1b7\x1b[31m\x1b)0\x1b[2;3r\x1b[3g\x1b[2;3Hcd\x1b]2;t\a\x1b[!p\x1b[5b")
	s := x.Screen().State()
	if s.Attr != (api.Attr{}) || s.Chars.Sets[1] != 'B' || s.Top != 0 || s.Bottom != 2 || s.Kept || x.Title() != "t" {
		t.Error("Reset", s)
	}
	shows(t, x, "Reset", pos(1, 4), "ab____/__cd__/______")
	x = small(t, "ab\x1b7\x1b[?47h\x1b7\x1b[31mc\x1b[!p")
	if !x.Other() || x.Screen().State().Kept || !x.First().State().Kept || x.Screen().State().Attr != (api.Attr{}) {
		t.Error("the screen in use alone")
	}
}

func TestStartOver(t *testing.T) {
	const all = "a\r\nb\r\nc\r\n\x1b7\x1b[31;44m\x1b)0\x1b[2;3r\x1b[?6h\x1b[4h\x1b[3g\x1b]2;t\a\x1b[2;2H"
	for _, other := range []string{"", "\x1b[?47h" + all, "\x1b[?47h" + all + "\x1b[?47l"} {
		x := small(t, all+other)
		base := x.First().Page().Base()
		x.Changes()
		x.Feed([]byte("\x1bc"))
		if x.Other() || x.Title() != "" || x.Modes() != mode.New() || !x.Rest() || len(x.Changes()) != 0 || x.First().Page().Base() != base {
			t.Errorf("%q: not as at first", other)
		}
		first := newTerm(t, 3, 6, 4, 99)
		for range 2 {
			if x.Screen().State() != first.Screen().State() || !slices.Equal(x.Screen().Stops().List(), []int{0}) {
				t.Errorf("%q: %v, stops %v", other, x.Screen().State(), x.Screen().Stops().List())
			}
			p := x.Screen().Page()
			for y := range 3 {
				if row, _ := p.Row(p.Base() + y); row.Cont || !slices.Equal(row.Cells, make([]api.Cell, 6)) {
					t.Errorf("%q: row %d: %v", other, y, row)
				}
			}
			x.Feed([]byte("\x1b[?47h")) // and so is the other one
			first.Feed([]byte("\x1b[?47h"))
		}
		x.Feed([]byte("\x1b[5b")) // nothing was printed last
		if seen(x.Screen()) != "______/______/______" {
			t.Errorf("%q: Repeat", other)
		}
	}
}

func TestAttributes(t *testing.T) {
	for _, x := range []struct {
		fed  string
		want api.Attr
	}{
		{"\x1b[1m", api.Attr{Flags: api.Bold}},
		{"\x1b[1;31m", api.Attr{Flags: api.Bold, Fore: api.Color{Kind: 1, N: 1}}},
		{"\x1b[31m", api.Attr{Fore: api.Color{Kind: 1, N: 1}}},
		{"\x1b[38;5;200m", api.Attr{Fore: api.Color{Kind: 1, N: 200}}},
		{"\x1b[38:5:200;4m", api.Attr{Fore: api.Color{Kind: 1, N: 200}, Flags: api.Under}},
		{"\x1b[1;31m\x1b[m", api.Attr{}},
		{"\x1b[1;31m\x1b[0m", api.Attr{}},
		{"\x1b[>1m\x1b[?1m\x1b[1$m", api.Attr{}},
	} {
		if got := small(t, x.fed).Screen().State().Attr; got != x.want {
			t.Errorf("%q: %v, not %v", x.fed, got, x.want)
		}
	}
	x := small(t, "\x1b[31ma")
	if row, _ := x.Screen().Page().Row(0); row.Cells[0] != (api.Cell{R: 'a', Attr: api.Attr{Fore: api.Color{Kind: 1, N: 1}}}) {
		t.Error("a cell", row.Cells[0])
	}
}
