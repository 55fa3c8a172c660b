package right_test

import (
	"math"
	"slices"
	"strings"
	"testing"

	"reeve/api"
	"reeve/right"
)

// texts is what the chapter tells of each that is Good, in the place of its number.
var texts = []string{"-", "r", "w", "rw", "g", "rg", "wg", "rwg"}

// bad: numbers that are not Good: near the edges, and far off, most of them with all rights' bits in their low ones.
func bad() []int {
	l := []int{8, 9, 15, 16, 23, 64, 71, 255, 256, 263, 1<<16 - 1, 1 << 16, 1 << 31, 1<<31 + 7, 1<<32 + 1, 1<<32 + 7, 1 << 40, 1<<62 + 5, math.MaxInt - 7, math.MaxInt - 1, math.MaxInt}
	for _, x := range []int{1, 2, 3, 4, 5, 6, 7, 8, 9, 249, 1 << 31, 1 << 32, 1<<32 - 7} {
		l = append(l, -x)
	}
	return append(l, math.MinInt, math.MinInt+1, math.MinInt+7)
}

// anyRights gives numbers of both kinds.
func anyRights() []int { return append([]int{0, 1, 2, 3, 4, 5, 6, 7}, bad()...) }

// set is rights as a set, told letter by letter: read, write, grant.
type set [3]bool

// setOf is by lists of what has each right: so no bit of what is not Good is in it.
func setOf(r int) set {
	return set{slices.Contains([]int{1, 3, 5, 7}, r), slices.Contains([]int{2, 3, 6, 7}, r), slices.Contains([]int{4, 5, 6, 7}, r)}
}

func (s set) number() int {
	n := 0
	for i, value := range []int{1, 2, 4} {
		if s[i] {
			n += value
		}
	}
	return n
}

func TestTheGivenRights(t *testing.T) {
	if api.Read != 1 || api.Write != 2 || api.Grant != 4 || api.All != 7 || api.MaxBadge != 65535 {
		t.Errorf("the tests' numbers are not api's")
	}
	if right.Text(api.Read) != "r" || right.Text(api.Write) != "w" || right.Text(api.Grant) != "g" || right.Text(api.All) != "rwg" {
		t.Errorf("P7.1: Text of Read, Write, Grant, All: %s, %s, %s, %s", right.Text(api.Read), right.Text(api.Write), right.Text(api.Grant), right.Text(api.All))
	}
}

func TestGood(t *testing.T) {
	for r := -1000; r <= 1000; r++ {
		if got := right.Good(r); got != slices.Contains([]int{0, 1, 2, 3, 4, 5, 6, 7}, r) {
			t.Errorf("P7.1: Good(%d): %v", r, got)
		}
	}
	for _, r := range bad() {
		if right.Good(r) {
			t.Errorf("P7.1: Good(%d): true", r)
		}
	}
	for bit := 3; bit < 64; bit++ {
		for low := range 8 {
			if r := 1<<bit | low; right.Good(r) {
				t.Errorf("P7.1: Good(%#x): true", r)
			}
		}
	}
}

func TestOfTwo(t *testing.T) {
	for _, a := range anyRights() {
		for _, b := range anyRights() {
			checkTwo(t, a, b)
		}
	}
}

// checkTwo holds Within, Both and Less against what sets tell.
func checkTwo(t *testing.T, a, b int) {
	t.Helper()
	var both, less set
	for i := range both {
		both[i] = setOf(a)[i] && setOf(b)[i]
		less[i] = setOf(a)[i] && !setOf(b)[i]
	}
	if got := right.Both(a, b); got != both.number() {
		t.Errorf("P7.1: Both(%d, %d): %d, want %d", a, b, got, both.number())
	}
	if got := right.Less(a, b); got != less.number() {
		t.Errorf("P7.1: Less(%d, %d): %d, want %d", a, b, got, less.number())
	}
	if got := right.Within(a, b); got != (less == set{}) {
		t.Errorf("P7.1: Within(%d, %d): %v", a, b, got)
	}
}

func TestOfTwoInNumbers(t *testing.T) {
	for _, c := range []struct {
		a, b       int
		within     bool
		both, less int
	}{
		{0, 0, true, 0, 0}, {0, 7, true, 0, 0}, {7, 0, false, 0, 7}, {7, 7, true, 7, 0}, {1, 3, true, 1, 0}, {3, 1, false, 1, 2}, {4, 3, false, 0, 4},
		{5, 6, false, 4, 1}, {6, 5, false, 4, 2}, {2, 5, false, 0, 2}, {3, 4, false, 0, 3}, {5, 7, true, 5, 0}, {4, 4, true, 4, 0},
		{8, 0, true, 0, 0}, {-1, 0, true, 0, 0}, {15, 7, true, 0, 0}, {-1, 7, true, 0, 0}, {9, 1, true, 0, 0}, {math.MaxInt, 7, true, 0, 0}, {math.MinInt, 7, true, 0, 0},
		{1, 8, false, 0, 1}, {1, 9, false, 0, 1}, {7, -1, false, 0, 7}, {7, 15, false, 0, 7}, {0, -1, true, 0, 0}, {5, math.MaxInt, false, 0, 5}, {2, math.MinInt, false, 0, 2},
		{-1, -1, true, 0, 0}, {8, 8, true, 0, 0}, {15, -1, true, 0, 0}, {math.MinInt, math.MaxInt, true, 0, 0},
	} {
		if got := right.Within(c.a, c.b); got != c.within {
			t.Errorf("P7.1: Within(%d, %d): %v", c.a, c.b, got)
		}
		if got := right.Both(c.a, c.b); got != c.both {
			t.Errorf("P7.1: Both(%d, %d): %d, want %d", c.a, c.b, got, c.both)
		}
		if got := right.Less(c.a, c.b); got != c.less {
			t.Errorf("P7.1: Less(%d, %d): %d, want %d", c.a, c.b, got, c.less)
		}
	}
}

func TestText(t *testing.T) {
	for r, want := range texts {
		if got := right.Text(r); got != want {
			t.Errorf("P7.1: Text(%d): %q, want %q", r, got, want)
		}
	}
	for _, r := range bad() {
		if got := right.Text(r); got != "-" {
			t.Errorf("P7.1: Text(%d): %q, want -", r, got)
		}
	}
}

func TestParseOfWhatTextTells(t *testing.T) {
	for want, s := range texts {
		if r, ok := right.Parse(s); r != want || !ok {
			t.Errorf("P7.1: Parse(%q): %d, %v, want %d", s, r, ok, want)
		}
	}
	for _, r := range anyRights() {
		want := setOf(r).number()
		if got, ok := right.Parse(right.Text(r)); got != want || !ok {
			t.Errorf("P7.1: Parse of Text(%d): %d, %v, want %d", r, got, ok, want)
		}
	}
}

// checkParse holds Parse against the eight texts.
func checkParse(t *testing.T, s string) {
	t.Helper()
	want := max(0, slices.Index(texts, s))
	may := slices.Contains(texts, s)
	if r, ok := right.Parse(s); r != want || ok != may {
		t.Errorf("P7.1: Parse(%q): %d, %v, want %d, %v", s, r, ok, want, may)
	}
}

// All texts of up to five of these: other orders, letters twice, `-` with something beside it.
func TestParseOfAllShortTexts(t *testing.T) {
	l := []string{""}
	for range 6 {
		var longer []string
		for _, s := range l {
			checkParse(t, s)
			for _, c := range "rwg-R x" {
				longer = append(longer, s+string(c))
			}
		}
		l = longer
	}
}

func TestParseOfAnyBytes(t *testing.T) {
	for x := range 256 {
		one := string([]byte{byte(x)})
		checkParse(t, one)
		for _, s := range texts {
			for at := range len(s) + 1 {
				checkParse(t, s[:at]+one+s[at:])
			}
			for at := range len(s) {
				checkParse(t, s[:at]+one+s[at+1:])
			}
		}
		for y := range 256 {
			checkParse(t, one+string([]byte{byte(y)}))
		}
	}
}

func TestParseOfWrongTexts(t *testing.T) {
	for _, s := range []string{
		"", "wr", "gr", "gw", "wrg", "rgw", "wgr", "grw", "gwr", "rr", "ww", "gg", "rrw", "rww", "rwgg", "rwgrwg",
		"--", "-r", "r-", "-rwg", "rwg-", "r-w", "- ", " -", "R", "W", "G", "RWG", "Rwg", "x", "rx", "xr", "rwx", "rwxg", "a", "e",
		"0", "1", "7", "5", " ", "r ", " r", "r w", "r,w", "r|w", "rw\n", "\n", "\t", "r\x00", "\x00", "\xff", "r\xffw", "rwg\xff", "\xef\xbb\xbfr",
		"\u2010", "\u2011", "\u2013", "\u2014", "\u2212", "\u0433", "\uff52", "\u24a1", "r\u200b", "r\u0301", "none", "read", "write", "grant", "all", "true",
		strings.Repeat("r", 1<<20), strings.Repeat("rwg", 1<<20), strings.Repeat("-", 1<<20), "rwg" + strings.Repeat("\x00", 1<<20),
	} {
		if r, ok := right.Parse(s); r != 0 || ok {
			t.Errorf("P7.1: Parse(%.20q), %d bytes: %d, %v", s, len(s), r, ok)
		}
	}
}

func TestAll(t *testing.T) {
	l := right.All()
	if !slices.Equal(l, []int{0, 1, 2, 3, 4, 5, 6, 7}) {
		t.Errorf("P7.1: All: %d", l)
	}
	for _, r := range l {
		if !right.Good(r) {
			t.Errorf("P7.1: All tells %d, which is not Good", r)
		}
	}
}

func TestAllAnswersNewMemory(t *testing.T) {
	first := right.All()
	second := right.All()
	for i := range first[:cap(first)] {
		first[:cap(first)][i] = 99
	}
	if want := []int{0, 1, 2, 3, 4, 5, 6, 7}; !slices.Equal(second, want) || !slices.Equal(right.All(), want) {
		t.Errorf("R4: two answers of All share memory: %d", second)
	}
	for _, x := range second[len(second):cap(second)] {
		if x != 0 {
			t.Errorf("R4: spare room of All's answer holds %d", x)
		}
	}
	for r, want := range texts {
		if s := right.Text(r); s != want {
			t.Errorf("R4: Text(%d) behind a change of All's answer: %q", r, s)
		}
		if got, ok := right.Parse(want); got != r || !ok {
			t.Errorf("R4: Parse(%q) behind a change of All's answer: %d, %v", want, got, ok)
		}
	}
}

func TestBadge(t *testing.T) {
	for b := range 65536 {
		if !right.Badge(b) {
			t.Errorf("P7.1: Badge(%d): false", b)
		}
	}
	for _, b := range []int{0, 1, 65534, 65535, api.MaxBadge} {
		if !right.Badge(b) {
			t.Errorf("P7.1: Badge(%d): false", b)
		}
	}
	for _, b := range []int{-1, -2, -65535, -65536, 65536, 65537, 65536 * 2, 1 << 31, 1<<31 + 5, 1 << 32, 1<<32 + 5, 1<<48 + 5, 1 << 62, -1 << 31, -1 << 32, 5 - 1<<32, math.MaxInt, math.MinInt, math.MinInt + 5} {
		if right.Badge(b) {
			t.Errorf("P7.1: Badge(%d): true", b)
		}
	}
}

// R5: what was asked before does not matter.
func TestAnswersStay(t *testing.T) {
	for range 3 {
		for r, want := range texts {
			right.Parse("wr")
			right.Text(-1)
			if got := right.Text(r); got != want {
				t.Errorf("R5: Text(%d): %q, want %q", r, got, want)
			}
		}
	}
}
