package path_test

import (
	"math"
	"slices"
	"strings"
	"testing"

	"reeve/api"
	"reeve/path"
)

// names is what the chapter tells of each step, in the place of its number.
var names = []string{"0", "1", "2", "3", "4", "5", "6", "7", "8", "9", "10", "11", "12", "13", "14", "15"}

func way(l ...int) path.Path { return path.Path{L: l} }

// goodWays gives all ways that may be: 16 of one step, 256 of two, 4096 of three.
func goodWays() [][]int {
	var l [][]int
	for a := range 16 {
		l = append(l, []int{a})
	}
	for a := range 256 {
		l = append(l, []int{a / 16, a % 16})
	}
	for a := range 4096 {
		l = append(l, []int{a / 256, a / 16 % 16, a % 16})
	}
	return l
}

// badSteps gives numbers that are no step: near the edges, and far off, some with a step's bits in their low ones.
func badSteps() []int {
	return []int{-1, -2, -15, -16, -17, 16, 17, 31, 32, 48, 255, 256, 257, 1 << 16, 1<<31 + 1, 1 << 32, 1<<32 + 5, 1<<40 + 15, 1 << 60, 1<<62 + 3, math.MaxInt, -1 << 31, -1 << 32, 5 - 1<<32, math.MinInt, math.MinInt + 7}
}

// badWays gives ways that may not be: of no steps, of too many, and with one step that is none, in each place.
func badWays() [][]int {
	l := [][]int{nil, {}, {0, 0, 0, 0}, {1, 2, 3, 4}, {15, 15, 15, 15}, {1, 2, 3, 16}, {1, 2, 3, -1}, {16, 16, 16, 16}, {1, 2, 3, 4, 5}}
	for n := 4; n <= 40; n++ {
		l = append(l, make([]int, n))
	}
	l = append(l, make([]int, 255), make([]int, 256), make([]int, 257), make([]int, 1<<16+1), make([]int, 1<<20))
	for _, step := range badSteps() {
		for n := 1; n <= 4; n++ {
			for at := range n {
				for _, other := range []int{0, 7, 15, step} {
					long := slices.Repeat([]int{other}, n)
					long[at] = step
					l = append(l, long)
				}
			}
		}
	}
	return l
}

// short is a way for a test's message: long ones are cut.
func short(l []int) []int { return l[:min(len(l), 9)] }

// wordOf is the chapter's word, as a sum, of a way that may be.
func wordOf(l []int) uint64 {
	w, value := uint64(len(l)), uint64(16)
	for _, step := range l {
		w += uint64(step) * value
		value *= 16
	}
	return w
}

// textOf is the chapter's text, of a way that may be.
func textOf(l []int) string {
	s := names[l[0]]
	for _, step := range l[1:] {
		s += "." + names[step]
	}
	return s
}

func TestTheGivenNumber(t *testing.T) {
	if api.MaxSteps != 3 {
		t.Errorf("the tests' ways are not of api's MaxSteps")
	}
}

func TestGood(t *testing.T) {
	for _, l := range goodWays() {
		if !path.Good(way(l...)) {
			t.Errorf("P9.1: Good(%d): false", l)
		}
	}
	for _, l := range badWays() {
		if path.Good(way(l...)) {
			t.Errorf("P9.1: Good(%d), %d steps: true", short(l), len(l))
		}
	}
}

func TestGoodInNumbers(t *testing.T) {
	for _, c := range []struct {
		l    []int
		want bool
	}{
		{nil, false}, {[]int{}, false}, {[]int{0}, true}, {[]int{15}, true}, {[]int{16}, false}, {[]int{-1}, false}, {[]int{1, 12}, true}, {[]int{0, 0, 0}, true}, {[]int{15, 15, 15}, true}, {[]int{0, 0, 0, 0}, false},
		{[]int{16, 0}, false}, {[]int{0, 16}, false}, {[]int{-1, 0}, false}, {[]int{0, -1}, false}, {[]int{16, 0, 0}, false}, {[]int{0, 16, 0}, false}, {[]int{0, 0, 16}, false}, {[]int{-1, 0, 0}, false}, {[]int{0, -1, 0}, false}, {[]int{0, 0, -1}, false},
		{[]int{1 << 32}, false}, {[]int{math.MaxInt}, false}, {[]int{math.MinInt}, false}, {[]int{0, 0, math.MinInt}, false},
	} {
		if got := path.Good(way(c.l...)); got != c.want {
			t.Errorf("P9.1: Good(%d): %v", c.l, got)
		}
	}
}

func TestWordAndGetThereAndBack(t *testing.T) {
	for _, l := range goodWays() {
		w, ok := path.Word(way(l...))
		if w != wordOf(l) || !ok {
			t.Errorf("P9.1: Word(%d): %#x, %v, want %#x", l, w, ok, wordOf(l))
		}
		if back, ok := path.Get(wordOf(l)); !ok || !slices.Equal(back.L, l) {
			t.Errorf("P9.1: Get(%#x): %d, %v, want %d", wordOf(l), back.L, ok, l)
		}
	}
}

func TestWordOfWhatIsNotGood(t *testing.T) {
	for _, l := range badWays() {
		if w, ok := path.Word(way(l...)); w != 0 || ok {
			t.Errorf("P9.1: Word(%d), %d steps: %#x, %v", short(l), len(l), w, ok)
		}
	}
}

func TestWordInNumbers(t *testing.T) {
	for _, c := range []struct {
		l []int
		w uint64
	}{
		{[]int{0}, 0x1}, {[]int{1}, 0x11}, {[]int{15}, 0xf1}, {[]int{0, 0}, 0x2}, {[]int{1, 12}, 0xc12}, {[]int{12, 1}, 0x1c2}, {[]int{15, 15}, 0xff2}, {[]int{0, 15}, 0xf02}, {[]int{15, 0}, 0xf2},
		{[]int{0, 0, 0}, 0x3}, {[]int{3, 0, 15}, 0xf033}, {[]int{1, 2, 3}, 0x3213}, {[]int{0, 0, 1}, 0x1003}, {[]int{1, 0, 0}, 0x13}, {[]int{15, 15, 15}, 0xfff3},
	} {
		if w, ok := path.Word(way(c.l...)); w != c.w || !ok {
			t.Errorf("P9.1: Word(%d): %#x, %v, want %#x", c.l, w, ok, c.w)
		}
		if p, ok := path.Get(c.w); !ok || !slices.Equal(p.L, c.l) {
			t.Errorf("P9.1: Get(%#x): %d, %v, want %d", c.w, p.L, ok, c.l)
		}
	}
}

// wordsOf is each word that Word writes, with its way.
func wordsOf() map[uint64][]int {
	m := map[uint64][]int{}
	for _, l := range goodWays() {
		m[wordOf(l)] = l
	}
	return m
}

// checkGet holds Get against the words that are written.
func checkGet(t *testing.T, written map[uint64][]int, w uint64) {
	t.Helper()
	want, may := written[w]
	p, ok := path.Get(w)
	if ok != may || !slices.Equal(p.L, want) {
		t.Errorf("P9.1: Get(%#x): %d, %v, want %d, %v", w, p.L, ok, want, may)
	}
	if !ok && p.L != nil {
		t.Errorf("R2: Get(%#x) answers a list beside false", w)
	}
}

// All words of 18 bits, those with a bit more, and any others.
func TestGetOfAnyWord(t *testing.T) {
	written := wordsOf()
	if len(written) != 16+256+4096 {
		t.Errorf("the ways' words are not one a way: %d", len(written))
	}
	for w := range uint64(1 << 18) {
		checkGet(t, written, w)
		checkGet(t, written, ^w)
		checkGet(t, written, w<<46)
		checkGet(t, written, w<<46|2)
	}
	for w := range written {
		for bit := range 64 {
			checkGet(t, written, w^1<<bit)
		}
	}
	w := uint64(88172645463325252)
	for range 100000 {
		w ^= w << 13
		w ^= w >> 7
		w ^= w << 17
		checkGet(t, written, w)
		checkGet(t, written, w&^15|w>>62)
	}
}

func TestGetOfABitTooMany(t *testing.T) {
	for _, l := range goodWays() {
		for bit := 4 + 4*len(l); bit < 64; bit++ {
			if p, ok := path.Get(wordOf(l) | 1<<bit); ok || p.L != nil {
				t.Errorf("P9.1: Get(%#x): %d, %v", wordOf(l)|1<<bit, p.L, ok)
			}
		}
	}
}

func TestGetOfTooFewOrTooManySteps(t *testing.T) {
	for _, n := range []uint64{0, 4, 5, 6, 7, 8, 9, 10, 11, 12, 13, 14, 15} {
		for _, rest := range []uint64{0, 1, 15, 0x10, 0xff, 0x100, 0x1000, 0xfff, 0x321, 0x4321, 0xffff, 1 << 59, 1<<60 - 1} {
			if p, ok := path.Get(rest<<4 | n); ok || p.L != nil {
				t.Errorf("P9.1: Get(%#x), which tells %d steps: %d, %v", rest<<4|n, n, p.L, ok)
			}
		}
	}
	for _, w := range []uint64{0xc11, 0x1001, 0x10001, 0x3212, 0x1002, 1 << 63, 1<<63 | 1, 1<<63 | 2, 1<<63 | 3, 0x13213, math.MaxUint64} {
		if p, ok := path.Get(w); ok || p.L != nil {
			t.Errorf("P9.1: Get(%#x): %d, %v", w, p.L, ok)
		}
	}
}

func TestText(t *testing.T) {
	for _, l := range goodWays() {
		if got := path.Text(way(l...)); got != textOf(l) {
			t.Errorf("P9.1: Text(%d): %q, want %q", l, got, textOf(l))
		}
	}
	for _, l := range badWays() {
		if got := path.Text(way(l...)); got != "" {
			t.Errorf("P9.1: Text(%d), %d steps: %.20q, want nothing", short(l), len(l), got)
		}
	}
}

func TestTextInNumbers(t *testing.T) {
	for _, c := range []struct {
		l    []int
		want string
	}{
		{[]int{0}, "0"}, {[]int{9}, "9"}, {[]int{10}, "10"}, {[]int{15}, "15"}, {[]int{1, 12}, "1.12"}, {[]int{12, 1}, "12.1"}, {[]int{0, 0}, "0.0"}, {[]int{0, 0, 0}, "0.0.0"}, {[]int{3, 0, 15}, "3.0.15"}, {[]int{15, 15, 15}, "15.15.15"},
		{nil, ""}, {[]int{16}, ""}, {[]int{-1}, ""}, {[]int{0, 16}, ""}, {[]int{1, 2, 3, 4}, ""},
	} {
		if got := path.Text(way(c.l...)); got != c.want {
			t.Errorf("P9.1: Text(%d): %q, want %q", c.l, got, c.want)
		}
	}
}

// textsOf is each text that Text writes, with its way.
func textsOf() map[string][]int {
	m := map[string][]int{}
	for _, l := range goodWays() {
		m[textOf(l)] = l
	}
	return m
}

// checkParse holds Parse against the texts that are written.
func checkParse(t *testing.T, written map[string][]int, s string) {
	t.Helper()
	want, may := written[s]
	p, ok := path.Parse(s)
	if ok != may || !slices.Equal(p.L, want) {
		t.Errorf("P9.1: Parse(%q): %d, %v, want %d, %v", s, p.L, ok, want, may)
	}
	if !ok && p.L != nil {
		t.Errorf("R2: Parse(%q) answers a list beside false", s)
	}
}

func TestParseOfWhatTextTells(t *testing.T) {
	written := textsOf()
	if len(written) != 16+256+4096 {
		t.Errorf("the ways' texts are not one a way: %d", len(written))
	}
	for s, l := range written {
		if p, ok := path.Parse(s); !ok || !slices.Equal(p.L, l) {
			t.Errorf("P9.1: Parse(%q): %d, %v, want %d", s, p.L, ok, l)
		}
		checkParse(t, written, path.Text(way(l...)))
	}
}

// All texts of up to six of these signs: leading noughts, signs, blanks, points too many at either end and in the middle.
func TestParseOfAllShortTexts(t *testing.T) {
	written := textsOf()
	l := []string{""}
	for range 7 {
		var longer []string
		for _, s := range l {
			checkParse(t, written, s)
			for _, c := range "0156.+ -" {
				longer = append(longer, s+string(c))
			}
		}
		l = longer
	}
}

// Each of some texts with any byte put in, or in place of one, or one left out; and all texts of two bytes.
func TestParseOfAnyBytes(t *testing.T) {
	written := textsOf()
	for _, s := range []string{"0", "9", "15", "1.12", "0.0", "15.15", "0.0.0", "3.0.15", "15.15.15", "10.11.12"} {
		for at := range len(s) {
			checkParse(t, written, s[:at]+s[at+1:])
		}
		for x := range 256 {
			one := string([]byte{byte(x)})
			for at := range len(s) + 1 {
				checkParse(t, written, s[:at]+one+s[at:])
			}
			for at := range len(s) {
				checkParse(t, written, s[:at]+one+s[at+1:])
			}
		}
	}
	for x := range 1 << 16 {
		checkParse(t, written, string([]byte{byte(x >> 8), byte(x)}))
	}
}

// Each number of up to 1000, in each place of one, two, three and four.
func TestParseOfAnyNumbers(t *testing.T) {
	written := textsOf()
	for x := range 1000 {
		n := ""
		for _, value := range []int{100, 10, 1} {
			if x >= value || value == 1 {
				n += names[x/value%10]
			}
		}
		for _, s := range []string{n, n + ".2", "2." + n, n + ".2.3", "2." + n + ".3", "2.3." + n, "1.2.3." + n, n + ".1.2.3"} {
			checkParse(t, written, s)
			checkParse(t, written, "-"+s)
			checkParse(t, written, "+"+s)
			checkParse(t, written, "0"+s)
			checkParse(t, written, strings.Replace(s, n, "0"+n, 1))
		}
	}
}

func TestParseOfWrongTexts(t *testing.T) {
	for _, s := range []string{
		"", ".", "..", "...", "....", "1.", ".1", "1.2.", ".1.2", "1..2", "1...2", "1.2.3.", ".1.2.3", "1..2.3", "1.2..3", "1.2.3.4", "0.0.0.0", "1.2.3.4.5", "1.2.3..",
		"16", "17", "20", "99", "100", "115", "150", "16.0", "0.16", "16.0.0", "0.16.0", "0.0.16", "256", "257", "65536", "4294967296", "4294967297", "18446744073709551615", "18446744073709551616", "18446744073709551617", "99999999999999999999", "340282366920938463463374607431768211456",
		"00", "01", "015", "007", "1.02", "01.2", "1.00", "1.2.03", "0.0.00", "000", "-1", "+1", "-0", "+0", "1.-1", "1.+1", "1.2.-3", "--1", "-", "+",
		" ", " 1", "1 ", "1 .2", "1. 2", "1.2 ", " 1.2", "1\n", "\n1", "1\t", "1.\t2", "1.2\r\n", "1\x00", "\x00", "\x001", "1\x00.2",
		"a", "f", "A", "F", "0x1", "0xf", "0b1", "0o7", "1e0", "1e1", "1_0", "1_", "_1", "1.a", "a.1", "1,2", "1;2", "1/2", "1:2", "1-2", "1|2", "1 2", "1.2,3", "1'2", "\"1\"", "(1)", "nil", "[1]", "one",
		"\u0661", "\u0660", "\u06f1", "\u0967", "\uff11", "\uff10", "\u00b9", "\u00bd", "\u2460", "\u2170", "\U0001d7cf", "1\u00b7" + "2", "1\uff0e2", "1\u30022", "1\u20242", "1\u066b2", "1\u22c52", "1\u2026" + "2", "1\u00a0", "\u00a01", "\u200b1", "1\u200b", "\ufeff1", "1\u0301", "\u22121", "\uff0d1", "\uff0b1", "\u20131",
		"\xff", "1\xff", "\xff1", "1.\xff", "1\xff2", "1.2\x80", "\xb11", "1\xc2\xb72", "1\xae2", "\xc0\xb1", "\xef\xbc",
		strings.Repeat("1", 1<<20), strings.Repeat("0", 1<<20), strings.Repeat(".", 1<<20), strings.Repeat("1.", 1<<20), strings.Repeat("0", 1<<20) + "1", "1" + strings.Repeat(" ", 1<<20), "1.2." + strings.Repeat("3", 1<<20), "1.2.3" + strings.Repeat(".", 1<<20), "1.2.3" + strings.Repeat(".4", 1<<20), "1.2.3" + strings.Repeat("\x00", 1<<20), strings.Repeat("\xff", 1<<20),
	} {
		if p, ok := path.Parse(s); ok || p.L != nil {
			t.Errorf("P9.1: Parse(%.20q), %d bytes: %d, %v", s, len(s), p.L, ok)
		}
	}
}

// begins is the chapter's Begins, by turns: the first step off both, till there is none of with.
func begins(p, with []int) bool {
	switch {
	case len(with) == 0:
		return true
	case len(p) == 0:
		return false
	}
	return p[0] == with[0] && begins(p[1:], with[1:])
}

// All pairs of ways of up to four steps, of these five numbers, Good or not.
func TestBegins(t *testing.T) {
	all := [][]int{nil}
	longest := all
	for range 4 {
		var longer [][]int
		for _, l := range longest {
			for _, step := range []int{0, 1, 15, 16, -1} {
				longer = append(longer, append(slices.Clone(l), step))
			}
		}
		longest = longer
		all = append(all, longer...)
	}
	for _, p := range all {
		for _, with := range all {
			if got := path.Begins(way(p...), way(with...)); got != begins(p, with) {
				t.Errorf("P9.1: Begins(%d, %d): %v", p, with, got)
			}
		}
	}
}

// With any first steps of its own each way begins; with one of them in any place another, or one more, it does not.
func TestBeginsOfAnyLength(t *testing.T) {
	for _, n := range []int{0, 1, 2, 3, 4, 5, 16, 17, 100} {
		p := make([]int, n)
		for i := range p {
			p[i] = i * i * 7 % 23
		}
		for first := range n + 1 {
			with := slices.Clone(p[:first])
			if !path.Begins(way(p...), way(with...)) {
				t.Errorf("P9.1: Begins of %d steps, with the first %d: false", n, first)
			}
			if path.Begins(way(with...), way(p...)) != (first == n) {
				t.Errorf("P9.1: Begins of the first %d steps of %d, with them all: %v", first, n, first != n)
			}
			for at := range with {
				for _, step := range []int{with[at] + 1, with[at] - 1, with[at] + 16, with[at] + 1<<32, -1 - with[at]} {
					other := slices.Clone(with)
					other[at] = step
					if path.Begins(way(p...), way(other...)) {
						t.Errorf("P9.1: Begins of %d steps, with the first %d and another one at %d: true", n, first, at)
					}
				}
			}
		}
		if path.Begins(way(p...), way(append(slices.Clone(p), 0)...)) {
			t.Errorf("P9.1: Begins of %d steps, with one more: true", n)
		}
	}
	long := make([]int, 1<<20)
	other := slices.Clone(long)
	other[1<<20-1] = 1
	if !path.Begins(way(long...), way(slices.Clone(long)...)) || path.Begins(way(long...), way(other...)) || !path.Begins(way(other...), way(long[:1<<20-1]...)) {
		t.Errorf("P9.1: Begins of very long ways")
	}
}

func TestBeginsInNumbers(t *testing.T) {
	for _, c := range []struct {
		p, with []int
		want    bool
	}{
		{nil, nil, true}, {nil, []int{}, true}, {[]int{}, nil, true}, {[]int{1, 2}, nil, true}, {[]int{1, 2}, []int{}, true}, {[]int{99}, nil, true}, {nil, []int{1}, false}, {nil, []int{0}, false}, {[]int{}, []int{0}, false},
		{[]int{1, 2}, []int{1}, true}, {[]int{1, 2}, []int{2}, false}, {[]int{1, 2}, []int{1, 2}, true}, {[]int{1, 2}, []int{1, 2, 3}, false}, {[]int{1, 2}, []int{1, 2, 0}, false}, {[]int{1}, []int{1, 0, 0}, false}, {[]int{0}, []int{0, 0}, false},
		{[]int{1, 2, 3}, []int{1, 2, 4}, false}, {[]int{1, 2, 3}, []int{1, 4, 3}, false}, {[]int{1, 2, 3}, []int{4, 2, 3}, false}, {[]int{1, 2, 3}, []int{1, 3}, false}, {[]int{1, 2, 3}, []int{2, 3}, false}, {[]int{1, 2, 3}, []int{3}, false},
		{[]int{99, -5, 1, 1}, []int{99, -5}, true}, {[]int{99, -5, 1, 1}, []int{99, 5}, false}, {[]int{16}, []int{16}, true}, {[]int{16}, []int{0}, false}, {[]int{0}, []int{16}, false}, {[]int{-1}, []int{15}, false}, {[]int{15}, []int{-1}, false}, {[]int{1, 2, 3, 4, 5}, []int{1, 2, 3, 4}, true}, {[]int{1, 2, 3, 4, 5}, []int{1, 2, 3, 5}, false}, {[]int{1 << 32}, []int{0}, false}, {[]int{math.MinInt, math.MaxInt}, []int{math.MinInt, math.MaxInt}, true},
	} {
		if got := path.Begins(way(c.p...), way(c.with...)); got != c.want {
			t.Errorf("P9.1: Begins(%d, %d): %v", c.p, c.with, got)
		}
	}
}

// R4: what is handed in stays as it is, with the room behind it, and that room tells nothing.
func TestWaysHandedInStay(t *testing.T) {
	for _, room := range [][]int{{1, 2, 3, 4, 5, 6}, {0, 0, 0, 0, 0, 0}, {16, -1, 99, 15, 15, 15}, {15, 16, 1, 1, 1, 1}, {3, 4, -9, -9, -9, -9}} {
		for n := range len(room) + 1 {
			l := slices.Clone(room)
			p := path.Path{L: l[:n]}
			tight := path.Path{L: slices.Clip(slices.Clone(room[:n]))}
			w, ok := path.Word(p)
			want, may := path.Word(tight)
			if w != want || ok != may || path.Text(p) != path.Text(tight) || path.Good(p) != path.Good(tight) {
				t.Errorf("R4: %d of %d is told by what stands behind it", n, room)
			}
			for m := range len(room) + 1 {
				if got := path.Begins(p, path.Path{L: l[:m]}); got != (m <= n) {
					t.Errorf("R4: Begins of %d and %d steps of %d: %v", n, m, room, got)
				}
			}
			if !slices.Equal(l, room) || len(p.L) != n {
				t.Errorf("R4: %d of %d is changed to %d", n, room, l)
			}
		}
	}
}

// R4: an answer is new memory, spare room too, and is not kept.
func TestAnswersAreNewMemory(t *testing.T) {
	for _, l := range goodWays() {
		for i, ask := range []func() (path.Path, bool){func() (path.Path, bool) { return path.Get(wordOf(l)) }, func() (path.Path, bool) { return path.Parse(textOf(l)) }} {
			first, _ := ask()
			second, _ := ask()
			for _, x := range first.L[len(first.L):cap(first.L)] {
				if x != 0 {
					t.Errorf("R4: spare room of an answer holds %d", x)
				}
			}
			whole := first.L[:cap(first.L)]
			for at := range whole {
				whole[at] = 99
			}
			third, ok := ask()
			if !ok || !slices.Equal(second.L, l) || !slices.Equal(third.L, l) {
				t.Errorf("R4: call %d of %d: answers share memory: %d, %d", i, l, second.L, third.L)
			}
		}
	}
}

// R5: what was asked before does not matter.
func TestAnswersStay(t *testing.T) {
	for range 3 {
		for _, l := range [][]int{{0}, {15}, {1, 12}, {3, 0, 15}} {
			path.Parse("1.2.3.4")
			path.Get(0xffff4)
			path.Word(way(1, 2, 3, 4))
			w, ok := path.Word(way(l...))
			p, fine := path.Parse(textOf(l))
			if w != wordOf(l) || !ok || !fine || !slices.Equal(p.L, l) || path.Text(p) != textOf(l) {
				t.Errorf("R5: of %d: %#x, %v; %d, %v", l, w, ok, p.L, fine)
			}
		}
	}
}
