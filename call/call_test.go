package call_test

import (
	"math"
	"slices"
	"strings"
	"testing"

	"reeve/api"
	"reeve/call"
	"reeve/path"
)

// far gives numbers whose low bits are those of x, but that are another.
func far(x int) []int {
	return []int{x + 1<<8, x + 1<<16, x + 1<<24, x + 1<<31, x + 1<<32, x + 1<<40, x + 1<<48, x + 1<<56, x + math.MinInt, x - 1<<8, x - 1<<16, x - 1<<32}
}

// anyNumbers gives the edges of each field, one below and one past them, and far ones.
func anyNumbers() []int {
	l := []int{math.MinInt, math.MinInt + 1, -65536, -4096, -8, -2, -1, 0, 1, 2, 3, 4, 5, 6, 7, 8, 9, 15, 16, 255, 256, 257, 4095, 4096, 4097, 8192, 65534, 65535, 65536, 65537, 1 << 31, 1 << 32, 1 << 62, math.MaxInt - 1, math.MaxInt}
	return slices.Concat(l, far(0), far(1), far(3))
}

func anyWords() []uint64 {
	return []uint64{0, 1, 9, 10, 99, 100, 255, 256, 65535, 65536, 1<<32 - 1, 1 << 32, 1<<53 + 1, 1<<63 - 1, 1 << 63, math.MaxUint64 - 1, math.MaxUint64, 0x0123456789abcdef, 10000000000000000000, 9999999999999999999}
}

func TestTheGivenNumbers(t *testing.T) {
	if api.Room != 1 || api.Leaf != 5 || api.All != 7 || api.MaxRoom != 4096 || api.MaxBadge != 65535 || api.LeafWords != 4 || api.MaxSteps != 3 {
		t.Errorf("the tests' numbers are not api's")
	}
}

func TestGoodCalls(t *testing.T) {
	for _, c := range someCalls() {
		if !mayBe(c) || !call.Good(c) {
			t.Errorf("P14.1: Good(%+v): false", c)
		}
		check(t, c)
	}
}

// Each X and Y that each Op has, from below its least to past its most; and each of an Op that has none.
func TestEachNumberOfEachOp(t *testing.T) {
	for _, c := range someCalls() {
		for x := -3; x <= 70; x++ {
			d := c
			d.X = x
			check(t, d)
		}
		for y := -3; y <= 4100; y++ {
			d := c
			d.Y = y
			check(t, d)
		}
		for _, n := range anyNumbers() {
			d, e := c, c
			d.X, e.Y = n, n
			check(t, d)
			check(t, e)
			for _, m := range anyNumbers() {
				d.Y = m
				check(t, d)
			}
		}
	}
}

func TestEachBadge(t *testing.T) {
	for y := -2; y <= 65538; y++ {
		check(t, call.Call{Op: 3, A: way(1), B: way(2), X: y & 7, Y: y})
	}
}

func TestNumbersAtTheEdges(t *testing.T) {
	a, b := way(1), way(2)
	for _, c := range []struct {
		op, x, y int
		want     bool
	}{
		{1, 0, 0, false}, {1, 1, 0, true}, {1, 5, 0, true}, {1, 6, 0, false}, {1, -1, 0, false}, {1, 1, -1, false}, {1, 1, 1, true}, {1, 1, 4095, true}, {1, 1, 4096, true}, {1, 1, 4097, false}, {1, 5, 4096, true}, {1, 2, 4096, true},
		{2, -1, 0, false}, {2, 0, 0, true}, {2, 7, 0, true}, {2, 8, 0, false}, {2, 0, 1, false}, {2, 0, -1, false}, {2, 7, 1, false},
		{3, -1, 1, false}, {3, 0, 1, true}, {3, 7, 1, true}, {3, 8, 1, false}, {3, 0, 0, false}, {3, 0, -1, false}, {3, 0, 65535, true}, {3, 7, 65535, true}, {3, 0, 65536, false}, {3, 7, 65536 + 5, false},
		{4, 0, 0, true}, {4, 1, 0, false}, {4, -1, 0, false}, {4, 0, 1, false}, {4, 0, -1, false},
		{7, 0, 0, true}, {7, 1, 0, false}, {7, 0, 1, false}, {8, 0, 0, true}, {8, 1, 0, false}, {8, 0, 1, false},
	} {
		d := call.Call{Op: c.op, A: a, B: b, X: c.x, Y: c.y}
		if got := call.Good(d); got != c.want {
			t.Errorf("P14.1: Good(%+v): %v", d, got)
		}
	}
	for _, c := range []struct {
		op, x, y int
		want     bool
	}{
		{5, 0, 0, true}, {5, 1, 0, false}, {5, 0, 1, false}, {6, 0, 0, true}, {6, 1, 0, false}, {6, 0, 1, false}, {9, 0, 0, true}, {9, 1, 0, false}, {9, 0, 1, false}, {10, 0, 0, true}, {10, 1, 0, false}, {10, 0, 1, false},
		{11, -1, 0, false}, {11, 0, 0, true}, {11, 3, 0, true}, {11, 4, 0, false}, {11, 0, 1, false}, {11, 3, -1, false}, {12, -1, 0, false}, {12, 0, 0, true}, {12, 3, 0, true}, {12, 4, 0, false}, {12, 0, 1, false}, {12, 3, -1, false},
		{13, 0, 0, true}, {13, 1, 0, false}, {13, -1, 0, false}, {13, 0, 1, false}, {13, 0, -1, false},
	} {
		d := call.Call{Op: c.op, A: a, X: c.x, Y: c.y}
		if got := call.Good(d); got != c.want {
			t.Errorf("P14.1: Good(%+v): %v", d, got)
		}
	}
}

func TestAnyOp(t *testing.T) {
	ops := []int{math.MinInt, math.MinInt + 5, math.MaxInt, math.MaxInt - 2}
	for op := -300; op <= 600; op++ {
		ops = append(ops, op)
	}
	for op := range 14 {
		ops = append(ops, far(op)...)
	}
	for _, op := range ops {
		for _, c := range append(someCalls(), call.Call{}, call.Call{A: way(1)}, call.Call{A: way(1), B: way(2)}) {
			c.Op = op
			check(t, c)
			if (op < 1 || op > 13) && (call.Good(c) || len(call.Words(c)) != 0 || call.Text(c) != "") {
				t.Errorf("P14.1: Op %d counts as one", op)
			}
		}
	}
}

// The second way is asked for, may have no steps, or may have none at all.
func TestWaysOfEachOp(t *testing.T) {
	for op := 1; op <= 13; op++ {
		c := most()[op-1]
		for _, none := range []path.Path{{}, {L: []int{}}, {L: []int{5}[:0]}} {
			d, e := c, c
			d.A, e.B = none, none
			if call.Good(d) || len(call.Words(d)) != 0 || call.Text(d) != "" {
				t.Errorf("P14.1: Op %d without A: it counts as Good", op)
			}
			if got := call.Good(e); got != slices.Contains([]int{5, 6, 7, 8, 9, 10, 11, 12, 13}, op) {
				t.Errorf("P14.1: Good of Op %d without B: %v", op, got)
			}
			check(t, d)
			check(t, e)
			d.B = none
			check(t, d)
		}
		c.B = way(3, 4)
		if got := call.Good(c); got != slices.Contains([]int{1, 2, 3, 4, 7, 8}, op) {
			t.Errorf("P14.1: Good of Op %d with B: %v", op, got)
		}
		check(t, c)
	}
}

func TestWaysThatMayNotBe(t *testing.T) {
	for _, l := range badWays() {
		for _, c := range someCalls() {
			d, e := c, c
			d.A, e.B = way(l...), way(l...)
			for _, x := range []call.Call{d, e, {Op: c.Op, A: way(l...), B: way(l...), X: c.X, Y: c.Y, W: c.W}} {
				if call.Good(x) || len(call.Words(x)) != 0 || call.Text(x) != "" {
					t.Errorf("P14.1: %+v counts as Good", short(x))
				}
			}
		}
	}
}

func TestAnyWays(t *testing.T) {
	for _, c := range someCalls() {
		for _, l := range goodWays() {
			d, e := c, c
			d.A, e.B = way(l...), way(l...)
			check(t, d)
			check(t, e)
		}
	}
	for _, c := range usual() {
		for _, a := range append(someWays(), nil, []int{16}, []int{-1}, []int{0, 0, 0, 0}) {
			for _, b := range append(someWays(), nil, []int{16}, []int{-1}, []int{0, 0, 0, 0}) {
				c.A, c.B = way(a...), way(b...)
				check(t, c)
			}
		}
	}
}

func TestAnyW(t *testing.T) {
	for _, c := range someCalls() {
		for _, w := range anyWords() {
			c.W = w
			check(t, c)
			if w != 0 && call.Good(c) != slices.Contains([]int{7, 11}, c.Op) {
				t.Errorf("P14.1: Good of Op %d with W %d: %v", c.Op, w, call.Good(c))
			}
		}
		for bit := range 64 {
			c.W = 1 << bit
			check(t, c)
		}
	}
}

// Any fields of any Op, each by turns at an edge: so that what one has does not hide what another may not.
func TestAnyFields(t *testing.T) {
	numbers := []int{-1, 0, 1, 3, 4, 5, 6, 7, 8, 4096, 4097, 65535, 65536}
	ways := [][]int{nil, {0}, {15, 15, 15}, {1, 12}, {16}, {0, 0, 0, 0}, {2, -1}}
	for op := -1; op <= 15; op++ {
		for _, a := range ways {
			for _, b := range ways {
				for _, x := range numbers {
					for _, y := range numbers {
						for _, w := range []uint64{0, 1, math.MaxUint64} {
							check(t, call.Call{Op: op, A: way(a...), B: way(b...), X: x, Y: y, W: w})
						}
					}
				}
			}
		}
	}
}

func TestWordsAndTextInNumbers(t *testing.T) {
	a, b := way(1, 12), way(15, 0, 7)
	for _, c := range []struct {
		c    call.Call
		l    [4]uint64
		text string
	}{
		{call.Call{Op: 1, A: a, B: b, X: 2, Y: 0x321}, [4]uint64{0x0321000201, 0xc12, 0x70f3}, "make 1.12 15.0.7 2 801"},
		{call.Call{Op: 1, A: a, B: b, X: 1}, [4]uint64{0x0101, 0xc12, 0x70f3}, "make 1.12 15.0.7 1 0"},
		{call.Call{Op: 1, A: b, B: a, X: 5, Y: 4096}, [4]uint64{0x1000000501, 0x70f3, 0xc12}, "make 15.0.7 1.12 5 4096"},
		{call.Call{Op: 2, A: a, B: b}, [4]uint64{2, 0xc12, 0x70f3}, "copy 1.12 15.0.7 0"},
		{call.Call{Op: 2, A: b, B: a, X: 7}, [4]uint64{0x0702, 0x70f3, 0xc12}, "copy 15.0.7 1.12 7"},
		{call.Call{Op: 3, A: a, B: b, X: 0, Y: 1}, [4]uint64{0x01000003, 0xc12, 0x70f3}, "mint 1.12 15.0.7 0 1"},
		{call.Call{Op: 3, A: a, B: b, X: 7, Y: 65535}, [4]uint64{0xffff000703, 0xc12, 0x70f3}, "mint 1.12 15.0.7 7 65535"},
		{call.Call{Op: 4, A: a, B: b}, [4]uint64{4, 0xc12, 0x70f3}, "move 1.12 15.0.7"},
		{call.Call{Op: 5, A: way(0)}, [4]uint64{5, 1}, "delete 0"},
		{call.Call{Op: 6, A: way(10)}, [4]uint64{6, 0xa1}, "revoke 10"},
		{call.Call{Op: 7, A: a, B: b, W: math.MaxUint64}, [4]uint64{7, 0xc12, 0x70f3, math.MaxUint64}, "send 1.12 15.0.7 18446744073709551615"},
		{call.Call{Op: 7, A: a, B: b}, [4]uint64{7, 0xc12, 0x70f3}, "send 1.12 15.0.7 0"},
		{call.Call{Op: 7, A: a, W: 10}, [4]uint64{7, 0xc12, 0, 10}, "send 1.12 - 10"},
		{call.Call{Op: 7, A: a}, [4]uint64{7, 0xc12}, "send 1.12 - 0"},
		{call.Call{Op: 8, A: a, B: b}, [4]uint64{8, 0xc12, 0x70f3}, "recv 1.12 15.0.7"},
		{call.Call{Op: 8, A: b}, [4]uint64{8, 0x70f3}, "recv 15.0.7 -"},
		{call.Call{Op: 9, A: way(15, 15, 15)}, [4]uint64{9, 0xfff3}, "ring 15.15.15"},
		{call.Call{Op: 10, A: a}, [4]uint64{10, 0xc12}, "poll 1.12"},
		{call.Call{Op: 11, A: a, X: 3, W: math.MaxUint64}, [4]uint64{0x030b, 0xc12, 0, math.MaxUint64}, "write 1.12 3 18446744073709551615"},
		{call.Call{Op: 11, A: a}, [4]uint64{11, 0xc12}, "write 1.12 0 0"},
		{call.Call{Op: 11, A: a, X: 1, W: 1 << 63}, [4]uint64{0x010b, 0xc12, 0, 1 << 63}, "write 1.12 1 9223372036854775808"},
		{call.Call{Op: 12, A: a}, [4]uint64{12, 0xc12}, "read 1.12 0"},
		{call.Call{Op: 12, A: b, X: 3}, [4]uint64{0x030c, 0x70f3}, "read 15.0.7 3"},
		{call.Call{Op: 13, A: way(1)}, [4]uint64{13, 0x11}, "tell 1"},
	} {
		if l := call.Words(c.c); !slices.Equal(l, c.l[:]) {
			t.Errorf("P14.1: Words(%+v): %x, want %x", c.c, l, c.l)
		}
		if got, ok := call.Get(c.l[:]...); !ok || !same(got, c.c) {
			t.Errorf("P14.1: Get(%x): %+v, %v, want %+v", c.l, got, ok, c.c)
		}
		if s := call.Text(c.c); s != c.text {
			t.Errorf("P14.1: Text(%+v): %q, want %q", c.c, s, c.text)
		}
	}
}

func TestGetOfABitMore(t *testing.T) {
	ways := waysOf()
	for _, c := range someCalls() {
		l := wordsOf(c)
		for at := range l {
			for bit := range 64 {
				l[at] ^= 1 << bit
				checkGet(t, ways, l...)
				for other := range 64 {
					l[at] ^= 1 << other
					checkGet(t, ways, l...)
					l[at] ^= 1 << other
				}
				l[at] ^= 1 << bit
			}
		}
	}
}

// A bit where Words sets none, in each of the four words: above Y, above the third step, and in W of an Op that has none.
func TestGetOfBitsThatAreNoFields(t *testing.T) {
	for _, c := range someCalls() {
		none := []uint64{0xffffff << 40, 0xffffffffffff << 16, 0xffffffffffff << 16, math.MaxUint64}
		if c.Op == 7 || c.Op == 11 {
			none[3] = 0
		}
		for at, bits := range none {
			for bit := range 64 {
				l := wordsOf(c)
				l[at] |= bits & (1 << bit)
				x, ok := call.Get(l...)
				if bits>>bit&1 == 1 && (at < 3 || c.W == 0) && (ok || !empty(x)) {
					t.Errorf("P14.1: Get(%x): %+v, %v", l, x, ok)
				}
			}
		}
	}
}

func TestGetOfOtherLengths(t *testing.T) {
	for _, c := range someCalls() {
		long := slices.Concat(wordsOf(c), wordsOf(c), make([]uint64, 64))
		for n := range long {
			if x, ok := call.Get(long[:n]...); ok != (n == 4) || !ok && !empty(x) {
				t.Errorf("P14.1: Get of %d words of %+v: %+v, %v", n, c, x, ok)
			}
		}
		if x, ok := call.Get(append(wordsOf(c), 0)...); ok || !empty(x) {
			t.Errorf("P14.1: Get of %+v and a 0: %+v, %v", c, x, ok)
		}
		if x, ok := call.Get(append([]uint64{0}, wordsOf(c)...)...); ok || !empty(x) {
			t.Errorf("P14.1: Get of a 0 and %+v: %+v, %v", c, x, ok)
		}
	}
	if x, ok := call.Get(); ok || !empty(x) {
		t.Errorf("P14.1: Get(): %+v, %v", x, ok)
	}
	for n := range 9 {
		if x, ok := call.Get(make([]uint64, n)...); ok || !empty(x) {
			t.Errorf("P14.1: Get of %d zero words: %+v, %v", n, x, ok)
		}
	}
	if x, ok := call.Get(make([]uint64, 1<<20)...); ok || !empty(x) {
		t.Errorf("P14.1: Get of many words: %+v, %v", x, ok)
	}
}

// All low words of ways, and such as no way has, in either place, of each Op.
func TestGetOfAnyWaysWords(t *testing.T) {
	ways := waysOf()
	for _, c := range usual() {
		a, b := wordsOf(c), wordsOf(c)
		for w := range uint64(1 << 17) {
			a[1], b[2] = w, w
			checkGet(t, ways, a...)
			checkGet(t, ways, b...)
		}
		for _, w := range []uint64{0x4, 0xc11, 0x101, 0x1001, 0x11002, 0x10003, 0x43214, 0xf, 0x10, 0xfff0, 1 << 63, 1<<63 | 0x11, 1<<32 | 0x11, math.MaxUint64, math.MaxUint64 - 15} {
			for _, at := range []int{1, 2} {
				l := wordsOf(c)
				l[at] = w
				if x, ok := call.Get(l...); ok || !empty(x) {
					t.Errorf("P14.1: Get(%x): %+v, %v", l, x, ok)
				}
			}
		}
	}
}

// All first words of 18 bits, and each Op with any Y, beside ways of each kind.
func TestGetOfAnyFirstWords(t *testing.T) {
	ways := waysOf()
	for _, rest := range [][3]uint64{{0x11, 0, 0}, {0x11, 0x21, 0}, {0xc12, 0, 5}, {0xc12, 0xfff3, 5}, {0, 0, 0}, {0, 0x11, 0}} {
		for w := range uint64(1 << 18) {
			checkGet(t, ways, w, rest[0], rest[1], rest[2])
		}
		for op := range uint64(16) {
			for _, x := range []uint64{0, 1, 5, 7, 256 + 5, 1 << 15} {
				for y := uint64(0); y <= 65535; y += 7 {
					checkGet(t, ways, y<<24|x<<8|op, rest[0], rest[1], rest[2])
				}
			}
		}
	}
}

// What words calls that are not Good would have.
func TestGetOfTheWordsOfWhatIsNotGood(t *testing.T) {
	ways := waysOf()
	for op := range 256 {
		for _, a := range [][]int{nil, {1}, {1, 12}} {
			for _, b := range [][]int{nil, {2}, {3, 4, 5}} {
				for _, x := range []int{0, 1, 3, 4, 5, 6, 7, 8, 255, 256, 65535} {
					for _, y := range []int{0, 1, 4096, 4097, 65535} {
						for _, w := range []uint64{0, 9} {
							c := call.Call{Op: op, A: way(a...), B: way(b...), X: x, Y: y, W: w}
							checkGet(t, ways, wordsOf(c)...)
							if got, ok := call.Get(wordsOf(c)...); ok != mayBe(c) || !ok && !empty(got) {
								t.Errorf("P14.1: Get of the words of %+v: %+v, %v", c, got, ok)
							}
						}
					}
				}
			}
		}
	}
}

func TestGetOfAnyWords(t *testing.T) {
	ways := waysOf()
	w := uint64(88172645463325252)
	next := func() uint64 {
		w ^= w << 13
		w ^= w >> 7
		w ^= w << 17
		return w
	}
	good := 0
	for range 300000 {
		checkGet(t, ways, next(), next(), next(), next())
		l := []uint64{next()%14 | next()%9<<8, wayWord(goodWay(next())), 0, 0}
		for at, mask := range []uint64{1 << 24, 0, 0, 1} {
			if next()%4 == 0 {
				l[at] += mask * (next() % 5000)
			}
		}
		if next()%2 == 0 {
			l[2] = wayWord(goodWay(next()))
		}
		checkGet(t, ways, l...)
		if _, ok := call.Get(l...); ok {
			good++
		}
	}
	if good < 10000 {
		t.Errorf("too few of these words are a call's: %d", good)
	}
}

// goodWay is a way that may be, by any number.
func goodWay(w uint64) []int {
	l := []int{int((w >> 8) % 16), int((w >> 12) % 16), int((w >> 16) % 16)}
	return l[:1+(w>>20)%3]
}

func TestNothingBesideFalse(t *testing.T) {
	for _, l := range [][]uint64{nil, {5}, {5, 0x11, 0}, {5, 0x11, 0, 0, 0}, {0, 0x11, 0x21, 3}, {14, 0x11, 0x21, 3}, {5, 0x11, 0x21, 0}, {5, 0x11, 0, 1}, {1, 0x11, 0x21, 0}, {3<<8 | 12, 0x14, 0, 0}, {4, 0x11, 0x10, 0}, {1<<40 | 7, 0x11, 0x21, 9}, {1<<63 | 13, 0x11, 0, 0}} {
		x, ok := call.Get(l...)
		if ok || x.Op != 0 || x.A.L != nil || x.B.L != nil || x.X != 0 || x.Y != 0 || x.W != 0 {
			t.Errorf("R2: Get(%x): %+v, %v", l, x, ok)
		}
	}
	for _, c := range []call.Call{{}, {Op: 5}, {Op: 14, A: way(1)}, {Op: 13, A: way(1), X: 1}, {Op: 7, A: way(1), B: way(16)}} {
		if call.Words(c) != nil || call.Text(c) != "" {
			t.Errorf("R2: Words, Text of %+v: %x, %q", c, call.Words(c), call.Text(c))
		}
	}
}

// R4: what is handed in stays as it is, with the room behind it, and that room tells nothing.
func TestWaysHandedInStay(t *testing.T) {
	for _, room := range [][]int{{1, 2, 3, 4, 5, 6}, {0, 0, 0, 0, 0, 0}, {15, 15, 16, -1, 99, 15}, {3, 4, 5, -9, -9, -9}} {
		for n := range 5 {
			for m := range 5 {
				for _, c := range usual() {
					a, b := slices.Clone(room), slices.Clone(room)
					c.A, c.B = way(a[:n]...), way(b[:m]...)
					tight := c
					tight.A, tight.B = way(slices.Clip(slices.Clone(a[:n]))...), way(slices.Clip(slices.Clone(b[:m]))...)
					check(t, c)
					if call.Good(c) != call.Good(tight) || call.Text(c) != call.Text(tight) || !slices.Equal(call.Words(c), call.Words(tight)) {
						t.Errorf("R4: %+v is told by what stands behind its ways", c)
					}
					if !slices.Equal(a, room) || !slices.Equal(b, room) {
						t.Errorf("R4: the ways of %+v are changed to %d, %d", c, a, b)
					}
					c.B = c.A
					check(t, c)
				}
			}
		}
	}
}

// R4: so do words.
func TestWordsHandedInStay(t *testing.T) {
	for _, c := range someCalls() {
		for _, behind := range []uint64{0, 5, math.MaxUint64} {
			l := append(wordsOf(c), slices.Repeat([]uint64{behind}, 6)...)
			before := slices.Clone(l)
			for n := range len(l) + 1 {
				call.Get(l[:n]...)
			}
			got, ok := call.Get(l[:4]...)
			if !slices.Equal(l, before) {
				t.Errorf("R4: Get changes its words to %x", l)
			}
			for i := range l {
				l[i] = 99
			}
			if !ok || !same(got, c) {
				t.Errorf("R4: Get keeps its words: %+v, %v, want %+v", got, ok, c)
			}
		}
	}
}

// spoil puts 99 everywhere in a list, spare room too.
func spoil[T int | uint64](l []T) {
	for i := range l[:cap(l)] {
		l[:cap(l)][i] = 99
	}
}

// R4: an answer is new memory, spare room too, and is not kept; no two lists of one answer share any.
func TestAnswersAreNewMemory(t *testing.T) {
	for _, c := range someCalls() {
		first, second := call.Words(c), call.Words(c)
		for _, w := range first[len(first):cap(first)] {
			if w != 0 {
				t.Errorf("R4: spare room of Words' answer holds %d", w)
			}
		}
		spoil(first)
		if !slices.Equal(second, wordsOf(c)) || !slices.Equal(call.Words(c), wordsOf(c)) {
			t.Errorf("R4: answers of Words(%+v) share memory: %x", c, second)
		}
		x, _ := call.Get(wordsOf(c)...)
		y, _ := call.Get(wordsOf(c)...)
		b := slices.Clone(x.B.L)
		spoil(x.A.L)
		if !slices.Equal(x.B.L, b) {
			t.Errorf("R4: the ways of one answer of Get share memory: %+v", x)
		}
		spoil(x.B.L)
		z, ok := call.Get(wordsOf(c)...)
		if !same(y, c) || !same(z, c) || !ok {
			t.Errorf("R4: answers of Get of %+v share memory: %+v, %+v", c, y, z)
		}
	}
}

// R4: the words are no part of the ways that were handed in, nor change with them.
func TestWordsStayWhenTheWaysChange(t *testing.T) {
	a, b := []int{1, 12}, []int{3}
	c := call.Call{Op: 4, A: way(a...), B: way(b...)}
	l, s := call.Words(c), call.Text(c)
	a[0], b[0] = 9, 9
	if !slices.Equal(l, []uint64{4, 0xc12, 0x31, 0}) || s != "move 1.12 3" {
		t.Errorf("R4: Words, Text change with the ways: %x, %q", l, s)
	}
	if s := call.Text(c); s != "move 9.12 9" {
		t.Errorf("R4: Text of changed ways: %q", s)
	}
}

// R5: what was asked before does not matter.
func TestAnswersStay(t *testing.T) {
	for range 3 {
		for _, c := range someCalls() {
			call.Get(14, 0x11, 0, 0)
			call.Words(call.Call{Op: -1})
			call.Text(call.Call{Op: 5, A: way(16)})
			check(t, c)
		}
	}
}

// No text has a blank too many, or a line's end; and no two calls have one text.
func TestTextsAreOneACall(t *testing.T) {
	seen := map[string]int{}
	for i, c := range someCalls() {
		s := call.Text(c)
		if s != strings.Join(strings.Fields(s), " ") || s == "" {
			t.Errorf("P14.1: Text(%+v): %q", c, s)
		}
		if at, ok := seen[s]; ok && !same(someCalls()[at], c) {
			t.Errorf("P14.1: Text(%+v) is that of %+v: %q", c, someCalls()[at], s)
		}
		seen[s] = i
	}
}
