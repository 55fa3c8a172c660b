package call_test

import (
	"encoding/binary"
	"math"
	"slices"
	"strings"
	"testing"

	"reeve/call"
	"reeve/path"
)

// row is a row of the chapter's table. Its fields are letters, in the table's order; b is a B that may have no steps.
type row struct {
	word, fields string
	x, y         [2]int // the least and the most
}

// table is the chapter's, by Op.
var table = map[int]row{
	1:  {"make", "ABXY", [2]int{1, 5}, [2]int{0, 4096}},
	2:  {"copy", "ABX", [2]int{0, 7}, [2]int{}},
	3:  {"mint", "ABXY", [2]int{0, 7}, [2]int{1, 65535}},
	4:  {"move", "AB", [2]int{}, [2]int{}},
	5:  {"delete", "A", [2]int{}, [2]int{}},
	6:  {"revoke", "A", [2]int{}, [2]int{}},
	7:  {"send", "AbW", [2]int{}, [2]int{}},
	8:  {"recv", "Ab", [2]int{}, [2]int{}},
	9:  {"ring", "A", [2]int{}, [2]int{}},
	10: {"poll", "A", [2]int{}, [2]int{}},
	11: {"write", "AXW", [2]int{0, 3}, [2]int{}},
	12: {"read", "AX", [2]int{0, 3}, [2]int{}},
	13: {"tell", "A", [2]int{}, [2]int{}},
}

// names is what the chapters tell of each step, in the place of its number.
var names = strings.Fields("0 1 2 3 4 5 6 7 8 9 10 11 12 13 14 15")

func way(l ...int) path.Path { return path.Path{L: l} }

// isWay tells whether steps are a way that may be.
func isWay(l []int) bool {
	none := func(step int) bool { return step < 0 || step > 15 }
	return len(l) > 0 && len(l) < 4 && !slices.ContainsFunc(l, none)
}

// mayBe is the chapter's Good, told by its table, a field at a time.
func mayBe(c call.Call) bool {
	r, ok := table[c.Op]
	if !ok || !isWay(c.A.L) {
		return false
	}
	has := func(field string) bool { return strings.Contains(r.fields, field) }
	switch {
	case has("B") && !isWay(c.B.L), has("b") && len(c.B.L) > 0 && !isWay(c.B.L), !has("B") && !has("b") && len(c.B.L) > 0:
		return false
	case has("X") && (c.X < r.x[0] || c.X > r.x[1]), !has("X") && c.X != 0:
		return false
	case has("Y") && (c.Y < r.y[0] || c.Y > r.y[1]), !has("Y") && c.Y != 0:
		return false
	}
	return has("W") || c.W == 0
}

// wayWord is the chapters' word of steps, as a sum: 0 of none.
func wayWord(l []int) uint64 {
	w, value := uint64(len(l)), uint64(16)
	for _, step := range l {
		w += uint64(step) * value
		value *= 16
	}
	return w
}

// wordsOf is the chapter's words, byte by byte: of one that is not Good, what they would be.
func wordsOf(c call.Call) []uint64 {
	b := make([]byte, 8)
	b[0] = byte(c.Op)
	binary.LittleEndian.PutUint16(b[1:], uint16(c.X))
	binary.LittleEndian.PutUint16(b[3:], uint16(c.Y))
	return []uint64{binary.LittleEndian.Uint64(b), wayWord(c.A.L), wayWord(c.B.L), c.W}
}

// wayText is the chapters' text of a way that may be, or of no steps.
func wayText(l []int) string {
	if len(l) == 0 {
		return "-"
	}
	s := names[l[0]]
	for _, step := range l[1:] {
		s += "." + names[step]
	}
	return s
}

// number tells one in base ten, digit by digit.
func number(w uint64) string {
	if w < 10 {
		return names[w]
	}
	return number(w/10) + names[w%10]
}

// textOf is the chapter's text of one that may be, letter by letter of its row.
func textOf(c call.Call) string {
	r := table[c.Op]
	s := r.word
	for _, field := range r.fields {
		s += " " + map[rune]func() string{
			'A': func() string { return wayText(c.A.L) },
			'B': func() string { return wayText(c.B.L) },
			'b': func() string { return wayText(c.B.L) },
			'X': func() string { return number(uint64(c.X)) },
			'Y': func() string { return number(uint64(c.Y)) },
			'W': func() string { return number(c.W) },
		}[field]()
	}
	return s
}

// goodWays gives all ways that may be: 16 of one step, 256 of two, 4096 of three.
func goodWays() [][]int {
	var l [][]int
	for a := range 16 {
		l = append(l, []int{a})
	}
	for a := range 256 {
		l = append(l, []int{a / 16, a % 16})
	}
	for a := range 4096 {
		l = append(l, []int{a / 256, a / 16 % 16, a % 16})
	}
	return l
}

// someWays gives ways of each length with steps at the edges and between.
func someWays() [][]int {
	return [][]int{{0}, {1}, {9}, {10}, {15}, {0, 0}, {1, 12}, {15, 0}, {0, 15}, {15, 15}, {0, 0, 0}, {1, 2, 3}, {15, 0, 0}, {0, 15, 0}, {0, 0, 15}, {15, 15, 15}}
}

// badWays gives ways of some steps that may not be: of too many, and with a step that is none, in each place.
func badWays() [][]int {
	l := [][]int{{0, 0, 0, 0}, {1, 2, 3, 4}, {15, 15, 15, 15}, {1, 2, 3, 16}, {1, 2, 3, -1}, {0, 0, 0, 0, 0}, make([]int, 15), make([]int, 16), make([]int, 17), make([]int, 255), make([]int, 256), make([]int, 257), make([]int, 1<<16+1), make([]int, 1<<20)}
	for _, step := range []int{-1, -2, -15, -16, 16, 17, 31, 32, 255, 256, 1 << 16, 1<<32 + 5, 1<<60 + 1, math.MaxInt, math.MinInt, math.MinInt + 7} {
		for n := 1; n <= 4; n++ {
			for at := range n {
				for _, other := range []int{0, 15} {
					long := slices.Repeat([]int{other}, n)
					long[at] = step
					l = append(l, long)
				}
			}
		}
	}
	return l
}

// waysOf is each word of a way with its steps, and 0 with none.
func waysOf() map[uint64][]int {
	m := map[uint64][]int{0: nil}
	for _, l := range goodWays() {
		m[wayWord(l)] = l
	}
	return m
}

// read is what the bytes of words tell, and whether a call that may be has just such words. The ways are waysOf's.
func read(ways map[uint64][]int, l []uint64) (call.Call, bool) {
	if len(l) != 4 {
		return call.Call{}, false
	}
	a, isA := ways[l[1]]
	b, isB := ways[l[2]]
	bytes := binary.LittleEndian.AppendUint64(nil, l[0])
	short := func(at int) int { return int(bytes[at]) + 256*int(bytes[at+1]) }
	c := call.Call{Op: int(bytes[0]), A: way(a...), B: way(b...), X: short(1), Y: short(3), W: l[3]}
	if !isA || !isB || bytes[5] != 0 || bytes[6] != 0 || bytes[7] != 0 || !mayBe(c) {
		return call.Call{}, false
	}
	return c, true
}

// same tells whether two are one: no steps are so of nil and of an empty list.
func same(a, b call.Call) bool {
	return a.Op == b.Op && slices.Equal(a.A.L, b.A.L) && slices.Equal(a.B.L, b.B.L) && a.X == b.X && a.Y == b.Y && a.W == b.W
}

// empty tells whether one has nothing at all.
func empty(c call.Call) bool { return same(c, call.Call{}) }

// short is a call for a test's message: long ways are cut.
func short(c call.Call) call.Call {
	c.A.L, c.B.L = c.A.L[:min(len(c.A.L), 6)], c.B.L[:min(len(c.B.L), 6)]
	return c
}

// check holds Good, Words and Text of any call, and Get of what Words writes, against the chapter.
func check(t *testing.T, c call.Call) {
	t.Helper()
	fine, l, text := call.Good(c), call.Words(c), call.Text(c)
	if want := mayBe(c); fine != want {
		t.Errorf("P14.1: Good(%+v): %v", short(c), fine)
	}
	if !mayBe(c) {
		if len(l) != 0 || text != "" {
			t.Errorf("P14.1: Words, Text of %+v, which is not Good: %x, %q", short(c), l, text)
		}
		return
	}
	if want := wordsOf(c); !slices.Equal(l, want) {
		t.Errorf("P14.1: Words(%+v): %x, want %x", c, l, want)
	}
	if got, ok := call.Get(l...); !ok || !same(got, c) {
		t.Errorf("P14.1: Get(%x): %+v, %v, want %+v", l, got, ok, c)
	}
	if want := textOf(c); text != want {
		t.Errorf("P14.1: Text(%+v): %q, want %q", c, text, want)
	}
}

// checkGet holds Get of any words against what their bytes tell, and Words against it.
func checkGet(t *testing.T, ways map[uint64][]int, l ...uint64) {
	t.Helper()
	want, fine := read(ways, l)
	got, ok := call.Get(l...)
	if ok != fine || !same(got, want) {
		t.Errorf("P14.1: Get(%x): %+v, %v, want %+v, %v", l, got, ok, want, fine)
	}
	if ok && !slices.Equal(call.Words(got), l) {
		t.Errorf("P14.1: Words(Get(%x)): %x", l, call.Words(got))
	}
}

// least gives a call of each Op with each field that it has at its least.
func least() []call.Call {
	var l []call.Call
	for op := 1; op <= 13; op++ {
		r := table[op]
		c := call.Call{Op: op, A: way(0), X: r.x[0], Y: r.y[0]}
		if strings.Contains(r.fields, "B") {
			c.B = way(0)
		}
		l = append(l, c)
	}
	return l
}

// most gives a call of each Op with each field that it has at its most.
func most() []call.Call {
	var l []call.Call
	for op := 1; op <= 13; op++ {
		r := table[op]
		c := call.Call{Op: op, A: way(15, 15, 15), X: r.x[1], Y: r.y[1]}
		if strings.ContainsAny(r.fields, "Bb") {
			c.B = way(15, 15, 15)
		}
		if strings.Contains(r.fields, "W") {
			c.W = math.MaxUint64
		}
		l = append(l, c)
	}
	return l
}

// usual gives a call of each Op with its fields between, each with another step or number: so none can stand in another's place.
func usual() []call.Call {
	return []call.Call{
		{Op: 1, A: way(1, 12), B: way(3), X: 4, Y: 0x789}, {Op: 2, A: way(1, 12), B: way(3), X: 5}, {Op: 3, A: way(2), B: way(9, 8, 7), X: 6, Y: 0x1234}, {Op: 4, A: way(1, 2, 3), B: way(4, 5)},
		{Op: 5, A: way(6, 11)}, {Op: 6, A: way(7)}, {Op: 7, A: way(8, 1), B: way(2, 13), W: 1234567890}, {Op: 7, A: way(8, 1), W: 77}, {Op: 8, A: way(9), B: way(10, 14, 1)}, {Op: 8, A: way(9)},
		{Op: 9, A: way(5, 6)}, {Op: 10, A: way(4)}, {Op: 11, A: way(3, 3, 2), X: 2, W: 0x123456789abcdef0}, {Op: 12, A: way(2, 7), X: 1}, {Op: 13, A: way(1)},
	}
}

// someCalls gives all of these.
func someCalls() []call.Call { return slices.Concat(least(), most(), usual()) }
