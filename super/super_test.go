package super_test

import (
	"math"
	"slices"
	"testing"

	"reeve/api"
	"reeve/geo"
	"reeve/super"
)

const (
	name = 0x7265657665303031
	ring = 1000003
)

// boots: numbers of boots, each part of the word among them, and pairs that the same closing word stands behind.
var boots = []uint64{0, 1, 5, 6 + 1<<32, 255, 1<<16 - 1, 1 << 16, 1<<32 - 1, 1 << 32, 1 << 48, 1 << 62, 1<<62 + 1, 1<<63 - 1, 1 << 63, 0x123456789abcdef0, math.MaxUint64}

// rest is what is left of x beside whole rings, from 0 on.
func rest(x int64) int64 {
	x %= ring
	if x < 0 {
		x += ring
	}
	return x
}

// spin is the closing word of chapter 1's Spin, in integers.
func spin(l ...uint64) uint64 {
	var a, b int64
	for _, w := range l {
		a, b = -b, a
		a += int64(w&0xffff) - int64(w>>32&0xffff)
		b += int64(w>>16&0xffff) - int64(w>>48)
		a, b = rest(a), rest(b)
	}
	return uint64(b)<<32 | uint64(a)
}

// closed is words with the closing word that belongs behind them.
func closed(l ...uint64) []uint64 { return append(slices.Clone(l), spin(l...)) }

// block is a superblock's eight words, as the chapter tells them, of whatever Geo.
func block(s super.Super) []uint64 {
	return closed(name, uint64(s.Geo.Threads), uint64(s.Geo.Slots), uint64(s.Geo.Things), s.Boot, 0, 0)
}

// all gives each Geo that may be, by chapter 5.
func all() []geo.Geo {
	var l []geo.Geo
	for threads := 1; threads <= api.MaxThreads; threads++ {
		for slots := 8 * threads; slots <= api.MaxSlots; slots += 8 {
			for things := threads + 2; things <= api.MaxThings; things++ {
				l = append(l, geo.Geo{Threads: threads, Slots: slots, Things: things})
			}
		}
	}
	return l
}

// may is Good, by lists of what may be.
func may(g geo.Geo) bool {
	for threads := 1; threads <= api.MaxThreads; threads++ {
		for slots := 8 * threads; slots <= api.MaxSlots; slots += 8 {
			if g.Threads == threads && g.Slots == slots {
				return threads+2 <= g.Things && g.Things <= api.MaxThings
			}
		}
	}
	return false
}

// bad: Geos that may not be, each for one number that is off by one, or by far.
func bad() []geo.Geo {
	l := []geo.Geo{{}}
	far := []int{-1, -8, 1 << 31, 1 << 32, 1<<32 + 2, 1<<32 + 16, 1 << 62, -1 << 32, math.MaxInt, math.MaxInt - 7, math.MinInt, math.MinInt + 2}
	for _, x := range append([]int{0, 5, 6}, far...) {
		l = append(l, geo.Geo{Threads: x, Slots: 96, Things: 48})
	}
	for _, x := range append([]int{0, 8, 15, 17, 20, 31, 33, 97, 100, 104}, far...) {
		l = append(l, geo.Geo{Threads: 2, Slots: x, Things: 16})
	}
	for _, x := range append([]int{0, 1, 2, 3, 49, 50}, far...) {
		l = append(l, geo.Geo{Threads: 2, Slots: 32, Things: x})
	}
	return append(l, geo.Geo{Threads: 1, Slots: 8, Things: 2}, geo.Geo{Threads: 4, Slots: 24, Things: 48}, geo.Geo{Threads: 4, Slots: 96, Things: 5})
}

// rows counts a Geo's rows, by chapter 5: two superblocks and the lock, 151 a thread, four slots a row, a row a thing.
func rows(g geo.Geo) int { return 3 + 151*g.Threads + g.Slots/4 + g.Things }

// some gives the least, the greatest, others between, and some of one number of rows (161, 163, 164).
func some() []geo.Geo {
	return []geo.Geo{
		{Threads: 1, Slots: 8, Things: 3}, {Threads: 1, Slots: 16, Things: 3}, {Threads: 1, Slots: 8, Things: 5}, {Threads: 1, Slots: 8, Things: 4},
		{Threads: 1, Slots: 24, Things: 3}, {Threads: 1, Slots: 16, Things: 5}, {Threads: 1, Slots: 8, Things: 7}, {Threads: 1, Slots: 16, Things: 6}, {Threads: 1, Slots: 8, Things: 8},
		{Threads: 2, Slots: 32, Things: 16}, {Threads: 3, Slots: 24, Things: 5}, {Threads: 4, Slots: 32, Things: 6}, {Threads: 4, Slots: 96, Things: 48},
	}
}

// read is Get: it takes the words apart, and holds them against the chapter's.
func read(l []uint64) (super.Super, bool) {
	if len(l) != 8 {
		return super.Super{}, false
	}
	for _, w := range l[1:4] {
		if w > 1000 {
			return super.Super{}, false
		}
	}
	s := super.Super{Geo: geo.Geo{Threads: int(l[1]), Slots: int(l[2]), Things: int(l[3])}, Boot: l[4]}
	if !may(s.Geo) || !slices.Equal(l, block(s)) {
		return super.Super{}, false
	}
	return s, true
}

// found is what Find answers.
type found struct {
	s           super.Super
	first, back bool
}

// look is Find.
func look(l []uint64) found {
	var f found
	if len(l) == 0 || len(l)%8 != 0 {
		return f
	}
	last, back := read(l[len(l)-8:])
	if back && rows(last.Geo)*8 == len(l) {
		f.s, f.back = last, true
	}
	s, first := read(l[:8])
	if first && rows(s.Geo)*8 == len(l) {
		f.s, f.first = s, true
	}
	return f
}

// memory is so many rows of no zeros, with words first and last of all.
func memory(rows int, first, last []uint64) []uint64 {
	l := make([]uint64, 8*rows)
	for at := range l {
		l[at] = uint64(at) * 0x9e3779b97f4a7c15
	}
	copy(l, first)
	copy(l[max(0, len(l)-len(last)):], last)
	return l
}

func checkGet(t *testing.T, l []uint64, want super.Super, may bool) {
	t.Helper()
	if s, ok := super.Get(l...); s != want || ok != may {
		t.Errorf("P6.1: Get(%#x): %v, %v, want %v, %v", l, s, ok, want, may)
	}
}

func checkNoGet(t *testing.T, l []uint64) {
	t.Helper()
	checkGet(t, l, super.Super{}, false)
}

func checkFind(t *testing.T, what string, l []uint64, want found) {
	t.Helper()
	s, first, back := super.Find(l)
	if (found{s, first, back}) != want {
		t.Errorf("P6.1: Find of %d words, %s: %v, %v, %v, want %v", len(l), what, s, first, back, want)
	}
	if want != look(l) {
		t.Errorf("the test's own: %d words, %s: %v, want %v", len(l), what, look(l), want)
	}
}

func checkNoFind(t *testing.T, what string, l []uint64) {
	t.Helper()
	checkFind(t, what, l, found{})
}

// Closing words by hand: the name is 12337 less 25974 and 25904 less 29285 times i, and six quarters turn that to 13637 and 3381 times i;
// Threads is turned by five quarters, Slots by four, Things by three, Boot's parts by two.
func TestPutInNumbers(t *testing.T) {
	for _, c := range []struct {
		s    super.Super
		want []uint64
	}{
		{super.Super{Geo: geo.Geo{Threads: 1, Slots: 8, Things: 3}, Boot: 0}, []uint64{name, 1, 8, 3, 0, 0, 0, 3379<<32 | 13645}},
		{super.Super{Geo: geo.Geo{Threads: 2, Slots: 32, Things: 16}, Boot: 5}, []uint64{name, 2, 32, 16, 5, 0, 0, 3367<<32 | 13664}},
		{super.Super{Geo: geo.Geo{Threads: 4, Slots: 96, Things: 48}, Boot: 0x0004000300020001}, []uint64{name, 4, 96, 48, 0x0004000300020001, 0, 0, 3339<<32 | 13735}},
		{super.Super{Geo: geo.Geo{Threads: 1, Slots: 8, Things: 3}, Boot: 0xffff}, []uint64{name, 1, 8, 3, 0xffff, 0, 0, 3379<<32 | 948113}},
		{super.Super{Geo: geo.Geo{Threads: 1, Slots: 8, Things: 3}, Boot: 0xffff0000}, []uint64{name, 1, 8, 3, 0xffff0000, 0, 0, 937847<<32 | 13645}},
	} {
		if l := super.Put(c.s); !slices.Equal(l, c.want) {
			t.Errorf("P6.1: Put(%v): %#x, want %#x", c.s, l, c.want)
		}
		checkGet(t, c.want, c.s, true)
	}
}

func TestPutAndGetOfAll(t *testing.T) {
	for _, g := range all() {
		for _, boot := range boots {
			s := super.Super{Geo: g, Boot: boot}
			l := super.Put(s)
			if !slices.Equal(l, block(s)) {
				t.Errorf("P6.1: Put(%v): %#x, want %#x", s, l, block(s))
			}
			checkGet(t, l, s, true)
		}
	}
}

func TestNothingOfWhatIsNotGood(t *testing.T) {
	for _, g := range bad() {
		for _, boot := range boots {
			s := super.Super{Geo: g, Boot: boot}
			if l := super.Put(s); len(l) != 0 {
				t.Errorf("P6.1: Put(%v), which is not Good: %#x", s, l)
			}
			checkNoGet(t, block(s))
		}
	}
}

func TestGetOfAnotherNumberOfWords(t *testing.T) {
	super8 := block(super.Super{Geo: geo.Geo{Threads: 2, Slots: 32, Things: 16}, Boot: 5})
	twice := slices.Concat(super8, super8, super8)
	checkNoGet(t, nil)
	checkNoGet(t, []uint64{})
	for n := range len(twice) + 1 {
		if n != 8 {
			checkNoGet(t, twice[:n])
			checkNoGet(t, twice[len(twice)-n:])
			checkNoGet(t, make([]uint64, n))
		}
	}
	checkNoGet(t, closed(super8[:6]...))
	checkNoGet(t, closed(super8[:5]...))
	checkNoGet(t, closed(append(slices.Clone(super8[:7]), 0)...))
	checkNoGet(t, closed(super8...))
	checkNoGet(t, append(slices.Clone(super8), 0))
	checkNoGet(t, append([]uint64{0}, super8...))
	checkNoGet(t, slices.Repeat(super8, 1000))
}

// turned gives words that differ from w: by each one bit, and far off.
func turned(w uint64) []uint64 {
	l := []uint64{w + 1, w - 1, w + ring, w + ring<<32, w<<32 | w>>32, ^w, -w}
	for bit := range 64 {
		l = append(l, w^1<<bit)
	}
	for _, v := range append([]uint64{2, 3, 4, 7, 8, 16, 24, 32, 48, 96}, boots...) {
		l = append(l, v, w|v<<32)
	}
	return slices.DeleteFunc(l, func(v uint64) bool { return v == w })
}

// Where the closing word is of what stood there before: just those of another Boot that it closes as well are ones.
func TestGetWithOneWordTurned(t *testing.T) {
	for _, g := range some() {
		for _, boot := range boots {
			l := block(super.Super{Geo: g, Boot: boot})
			for at := range l {
				old := l[at]
				for _, w := range turned(old) {
					l[at] = w
					want, ok := read(l)
					checkGet(t, l, want, ok)
					if ok && at != 4 {
						t.Errorf("the test's own: word %d turned to %#x", at, w)
					}
				}
				l[at] = old
			}
			checkGet(t, l, super.Super{Geo: g, Boot: boot}, true)
		}
	}
}

func TestGetWithOneBitTurned(t *testing.T) {
	for _, g := range some() {
		l := block(super.Super{Geo: g, Boot: 5})
		for bit := range 8 * 64 {
			l[bit/64] ^= 1 << (bit % 64)
			checkNoGet(t, l)
			l[bit/64] ^= 1 << (bit % 64)
		}
	}
}

// Where the closing word fits: the words ahead of it must be such as Put writes, all the same.
func TestGetOfFittingWordsThatPutNeverWrites(t *testing.T) {
	for _, g := range some() {
		l := block(super.Super{Geo: g, Boot: 7})[:7]
		for at := range l {
			old := l[at]
			for _, w := range turned(old) {
				l[at] = w
				s, ok := read(closed(l...))
				checkGet(t, closed(l...), s, ok)
				if ok && (at < 1 || at > 4) {
					t.Errorf("the test's own: word %d turned to %#x", at, w)
				}
			}
			l[at] = old
		}
	}
	for _, l := range [][]uint64{
		{name, 2, 32, 16, 5, 1, 0}, {name, 2, 32, 16, 5, 0, 1}, {name, 2, 32, 16, 5, 1 << 63, 0}, {name, 2, 32, 16, 5, 0, 1 << 63},
		{name + 1, 2, 32, 16, 5, 0, 0}, {0, 2, 32, 16, 5, 0, 0}, {0x3130306576656572, 2, 32, 16, 5, 0, 0},
		{name, 1<<32 | 2, 32, 16, 5, 0, 0}, {name, 2, 1<<32 | 32, 16, 5, 0, 0}, {name, 2, 32, 1<<32 | 16, 5, 0, 0}, {name, 1<<63 | 2, 32, 16, 5, 0, 0},
		{name, 0, 32, 16, 5, 0, 0}, {name, 5, 96, 48, 5, 0, 0}, {name, 2, 33, 16, 5, 0, 0}, {name, 2, 8, 16, 5, 0, 0}, {name, 2, 104, 16, 5, 0, 0},
		{name, 2, 32, 3, 5, 0, 0}, {name, 2, 32, 49, 5, 0, 0}, {name, math.MaxUint64, 32, 16, 5, 0, 0}, {0, 0, 0, 0, 0, 0, 0},
	} {
		checkNoGet(t, closed(l...))
	}
}

func TestGetOfAnotherClosingWord(t *testing.T) {
	s := super.Super{Geo: geo.Geo{Threads: 2, Slots: 32, Things: 16}, Boot: 5}
	l := block(s)
	fits := l[7]
	for _, w := range []uint64{0, fits + ring, fits + ring<<32, fits - 1, fits + 1, fits + 1<<32, fits<<32 | fits>>32, fits & math.MaxUint32, fits >> 32 << 32, math.MaxUint64, spin(l...), spin(l[:6]...), spin(l[1:7]...)} {
		l[7] = w
		checkNoGet(t, l)
	}
	l[7] = fits
	checkGet(t, l, s, true)
}

// Two Boots that one closing word stands behind are told apart by their own word.
func TestGetOfBootsThatCloseAlike(t *testing.T) {
	g := geo.Geo{Threads: 2, Slots: 32, Things: 16}
	a, b := super.Super{Geo: g, Boot: 5}, super.Super{Geo: g, Boot: 6 + 1<<32}
	if super.Put(a)[7] != super.Put(b)[7] {
		t.Errorf("P6.1: Put: closing words %#x, %#x", super.Put(a)[7], super.Put(b)[7])
	}
	checkGet(t, block(a), a, true)
	checkGet(t, block(b), b, true)
}

func TestFindOfAll(t *testing.T) {
	for _, g := range all() {
		a, b := super.Super{Geo: g, Boot: 3}, super.Super{Geo: g, Boot: 4}
		n := rows(g)
		checkFind(t, "both", memory(n, block(a), block(b)), found{a, true, true})
		checkFind(t, "the first one", memory(n, block(a), nil), found{a, true, false})
		checkFind(t, "the last one", memory(n, nil, block(b)), found{b, false, true})
		checkNoFind(t, "neither", memory(n, nil, nil))
		checkNoFind(t, "a row less", memory(n-1, block(a), block(b)))
		checkNoFind(t, "a row more", memory(n+1, block(a), block(b)))
	}
}

// The first one's Boot is told, whichever is greater.
func TestFindOfTwoBoots(t *testing.T) {
	for _, g := range some() {
		for _, x := range boots {
			for _, y := range boots {
				a, b := super.Super{Geo: g, Boot: x}, super.Super{Geo: g, Boot: y}
				checkFind(t, "two Boots", memory(rows(g), block(a), block(b)), found{a, true, true})
			}
		}
	}
}

// Each one of some first of all, and last of all, in memories of just as many rows as each of them tells.
func TestFindOfTwoGeos(t *testing.T) {
	alike := 0
	for _, of := range some() {
		for _, f := range some() {
			for _, k := range some() {
				a, b := super.Super{Geo: f, Boot: 11}, super.Super{Geo: k, Boot: 22}
				l := memory(rows(of), block(a), block(b))
				var want found
				if rows(k) == rows(of) {
					want.s, want.back = b, true
				}
				if rows(f) == rows(of) {
					want.s, want.first = a, true
				}
				checkFind(t, "two Geos", l, want)
				if want.first && want.back && f != k {
					alike++
				}
			}
		}
	}
	if alike == 0 {
		t.Errorf("the test's own: no two of as many rows")
	}
}

func TestFindOfTwoGeosOfAsManyRows(t *testing.T) {
	a := super.Super{Geo: geo.Geo{Threads: 1, Slots: 16, Things: 3}, Boot: 1}
	b := super.Super{Geo: geo.Geo{Threads: 1, Slots: 8, Things: 5}, Boot: 2}
	checkFind(t, "slots first", memory(161, block(a), block(b)), found{a, true, true})
	checkFind(t, "things first", memory(161, block(b), block(a)), found{b, true, true})
}

func TestFindOfWordsThatAreNotWholeRows(t *testing.T) {
	for _, g := range some() {
		n := 8 * rows(g)
		b := block(super.Super{Geo: g, Boot: 9})
		for off := -9; off <= 9; off++ {
			if off%8 == 0 {
				continue
			}
			l := slices.Concat(b, make([]uint64, n+off-16), b)
			checkNoFind(t, "both", l)
			checkNoFind(t, "the first one", append(l[:n+off-8:n+off-8], make([]uint64, 8)...))
			checkNoFind(t, "the last one", append(make([]uint64, 8), l[8:]...))
		}
	}
}

func TestFindOfShortMemories(t *testing.T) {
	b := block(super.Super{Geo: geo.Geo{Threads: 1, Slots: 8, Things: 3}, Boot: 1})
	checkNoFind(t, "nil", nil)
	checkNoFind(t, "none", []uint64{})
	checkNoFind(t, "one row of 0s", make([]uint64, 8))
	checkNoFind(t, "one row", b)
	checkNoFind(t, "two rows", slices.Concat(b, b))
	checkNoFind(t, "three rows", slices.Concat(b, b, b))
	for n := range 40 {
		checkNoFind(t, "0s", make([]uint64, n))
		checkNoFind(t, "rows of it", slices.Repeat(b, 5)[:n])
	}
}

// Longer than any memory: the count of rows is what it is.
func TestFindOfLongMemories(t *testing.T) {
	g := geo.Geo{Threads: 4, Slots: 96, Things: 48}
	b := block(super.Super{Geo: g, Boot: 1})
	for _, n := range []int{680, 4095, 4096, 4097, 1<<16 + 679, 1 << 17} {
		checkNoFind(t, "long", memory(n, b, b))
	}
}

// Superblocks that stand elsewhere are not asked for.
func TestFindLooksNowhereElse(t *testing.T) {
	g := geo.Geo{Threads: 1, Slots: 8, Things: 3}
	b := block(super.Super{Geo: g, Boot: 1})
	n := 8 * rows(g)
	for at := 1; at < n-8; at++ {
		l := memory(rows(g), nil, nil)
		copy(l[at:], b)
		checkNoFind(t, "it stands between", l)
	}
	l := slices.Repeat(b, rows(g))
	clear(l[:8])
	clear(l[n-8:])
	checkNoFind(t, "all rows between", l)
}

// What stands between does not count, whatever it is.
func TestFindOfWhateverStandsBetween(t *testing.T) {
	g := geo.Geo{Threads: 2, Slots: 32, Things: 16}
	a, b := super.Super{Geo: g, Boot: 8}, super.Super{Geo: g, Boot: 2}
	l := memory(rows(g), block(a), block(b))
	for at := 8; at < len(l)-8; at++ {
		l[at] ^= math.MaxUint64
	}
	checkFind(t, "other words", l, found{a, true, true})
	clear(l[8 : len(l)-8])
	checkFind(t, "0s", l, found{a, true, true})
	copy(l[8:], block(super.Super{Geo: g, Boot: 99}))
	checkFind(t, "a third one", l, found{a, true, true})
}

func TestFindWithOneBitTurned(t *testing.T) {
	g := geo.Geo{Threads: 2, Slots: 32, Things: 16}
	a, b := super.Super{Geo: g, Boot: 8}, super.Super{Geo: g, Boot: 2}
	l := memory(rows(g), block(a), block(b))
	last := l[len(l)-8:]
	for bit := range 8 * 64 {
		at, turn := bit/64, uint64(1)<<(bit%64)
		l[at] ^= turn
		checkFind(t, "a bit of the first one", l, found{b, false, true})
		last[at] ^= turn
		checkNoFind(t, "a bit of each", l)
		l[at] ^= turn
		checkFind(t, "a bit of the last one", l, found{a, true, false})
		last[at] ^= turn
	}
	checkFind(t, "none any more", l, found{a, true, true})
}

// Fitting ones that Put never writes are none here, either.
func TestFindOfFittingWordsThatPutNeverWrites(t *testing.T) {
	g := geo.Geo{Threads: 2, Slots: 32, Things: 16}
	s := super.Super{Geo: g, Boot: 8}
	for _, w := range [][]uint64{
		{name, 2, 32, 16, 5, 1, 0}, {name, 2, 32, 16, 5, 0, 1}, {name + 1, 2, 32, 16, 5, 0, 0},
		{name, 1<<32 | 2, 32, 16, 5, 0, 0}, {name, 2, 1<<32 | 32, 16, 5, 0, 0}, {name, 2, 36, 15, 5, 0, 0}, {name, 2, 32, 1<<63 | 16, 5, 0, 0},
	} {
		forged := closed(w...)
		checkFind(t, "first of all", memory(rows(g), forged, block(s)), found{s, false, true})
		checkFind(t, "last of all", memory(rows(g), block(s), forged), found{s, true, false})
		checkNoFind(t, "both", memory(rows(g), forged, forged))
	}
	for _, g := range bad() {
		b := block(super.Super{Geo: g, Boot: 8})
		for _, n := range []int{1, 2, 3, 159, 329, 679} {
			checkNoFind(t, "not Good", memory(n, b, b))
		}
		if n := rows(g); 1 <= n && n <= 5000 {
			checkNoFind(t, "not Good, of so many rows", memory(n, b, b))
		}
	}
}

// R4: what is handed in stays, its spare room included.
func TestListsAreNotChanged(t *testing.T) {
	g := geo.Geo{Threads: 1, Slots: 8, Things: 3}
	b := block(super.Super{Geo: g, Boot: 1})
	for _, l := range [][]uint64{b, b[:7], closed(b...), memory(rows(g), b, b), memory(rows(g), b, nil), memory(rows(g), nil, b), memory(rows(g), b, b)[:8*rows(g)-3], {}} {
		whole := make([]uint64, 0, len(l)+24)
		whole = append(whole, l...)
		room := whole[:cap(whole)]
		for at := len(l); at < len(room); at++ {
			room[at] = 77
		}
		old := slices.Clone(room)
		super.Get(whole...)
		super.Find(whole)
		if !slices.Equal(room, old) {
			t.Errorf("R4: a list of %d words was changed", len(l))
		}
	}
}

// R4, R5: what is answered is new memory, and hangs on no earlier answer.
func TestAnswersAreNew(t *testing.T) {
	s := super.Super{Geo: geo.Geo{Threads: 2, Slots: 32, Things: 16}, Boot: 5}
	a, b := super.Put(s), super.Put(s)
	for at, room := range [][]uint64{a[:cap(a)], b[:cap(b)]} {
		for i := range room {
			room[i] = uint64(at)
		}
	}
	if slices.Contains(a[:cap(a)], 1) {
		t.Errorf("R4: two lists that Put answered share memory")
	}
	for range 2 {
		if l := super.Put(s); !slices.Equal(l, block(s)) {
			t.Errorf("R5: Put(%v) asked again: %#x", s, l)
		}
		checkNoGet(t, nil)
		checkGet(t, block(s), s, true)
	}
}

// Words that come of no thought at all, one by one put in the place of a superblock's.
func TestGetAndFindOfAnyWords(t *testing.T) {
	seed := uint64(6)
	next := func() uint64 {
		seed += 0x9e3779b97f4a7c15
		x := seed
		x = (x ^ x>>30) * 0xbf58476d1ce4e5b9
		x = (x ^ x>>27) * 0x94d049bb133111eb
		return x ^ x>>31
	}
	geos, ones := all(), 0
	for range 20000 {
		l := block(super.Super{Geo: geos[next()%uint64(len(geos))], Boot: next() >> (next() % 64)})
		for range next() % 3 {
			l[next()%8] = next() >> (next() % 64)
		}
		if next()%2 == 0 {
			l = closed(l[:7]...)
		}
		s, ok := read(l)
		checkGet(t, l, s, ok)
		if ok {
			ones++
		}
		n := 159 + int(next()%8)
		m := memory(n, l, block(super.Super{Geo: geos[next()%46], Boot: next()}))
		checkFind(t, "any words", m, look(m))
	}
	if ones < 5000 || ones > 15000 {
		t.Errorf("the test's own: %d of them are ones", ones)
	}
}
