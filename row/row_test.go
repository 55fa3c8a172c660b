package row_test

import (
	"math"
	"testing"

	"reeve/row"
)

// outside: what is no place in a row.
var outside = []int{-1, 8, -2, 9, -7, -8, 15, 16, 63, 64, -64, 255, 256, 1 << 31, 1<<32 + 3, -1 << 32, 1 << 40, -1 << 40, math.MaxInt, math.MinInt, math.MinInt + 3}

// values: words that a row may lose bits of, if it keeps them otherwise than whole.
var values = []uint64{0, 1, 2, 5, 1 << 31, 1 << 32, 1<<32 + 7, 1 << 63, math.MaxInt64, math.MaxUint64}

// shapes: rows of every pairing of Out and Sent, of words that differ and of words that do not,
// whichever of them calls of the package could make.
func shapes() []row.Row {
	words := [][8]uint64{
		{}, {1, 2, 3, 4, 5, 6, 7, 8}, {1, 2, 3, 4, 5, 6, 7, 9}, {11, 2, 3, 4, 5, 6, 7, 8},
		{1 << 63, 0, math.MaxUint64, 0, 1 << 32, 0, 0, 1},
	}
	var l []row.Row
	for _, lasts := range words {
		for _, newest := range words {
			for _, out := range []bool{false, true} {
				for _, sent := range []bool{false, true} {
					l = append(l, row.Row{Lasts: lasts, New: newest, Out: out, Sent: sent})
				}
			}
		}
	}
	return l
}

// settled is a row that is neither Out nor Sent, of these words.
func settled(words [8]uint64) row.Row { return row.Row{Lasts: words, New: words} }

func TestStore(t *testing.T) {
	for _, from := range shapes() {
		for at := range 8 {
			for _, v := range append([]uint64{from.New[at], from.Lasts[at]}, values...) {
				want := row.Row{Lasts: from.Lasts, New: from.New, Out: true}
				want.New[at] = v
				r := from
				if ok := r.Store(at, v); !ok || r != want {
					t.Errorf("P2.1: Store(%d, %d) of %v: %v, %v", at, v, from, ok, r)
				}
			}
		}
	}
}

func TestStoreOutside(t *testing.T) {
	for _, from := range shapes() {
		for _, at := range outside {
			r := from
			if ok := r.Store(at, 5); ok || r != from {
				t.Errorf("P2.1: Store(%d, 5) of %v: %v, %v", at, from, ok, r)
			}
		}
	}
}

func TestLoad(t *testing.T) {
	for _, from := range shapes() {
		r := from
		for at := range 8 {
			if got := r.Load(at); got != from.New[at] {
				t.Errorf("P2.1: Load(%d) of %v: %d", at, from, got)
			}
		}
		for _, at := range outside {
			if got := r.Load(at); got != 0 {
				t.Errorf("P2.1: Load(%d) of %v: %d", at, from, got)
			}
		}
		if r != from {
			t.Errorf("R3: Load changed %v to %v", from, r)
		}
	}
}

func TestFlush(t *testing.T) {
	for _, from := range shapes() {
		want := from
		if from.Out {
			want.Sent = true
		}
		r := from
		if r.Flush(); r != want {
			t.Errorf("P2.1: Flush of %v: %v", from, r)
		}
	}
}

func TestFence(t *testing.T) {
	for _, from := range shapes() {
		want, may := from, from.Out && from.Sent
		if may {
			want = settled(from.New)
		}
		r := from
		if ok := r.Fence(); ok != may || r != want {
			t.Errorf("P2.1: Fence of %v: %v, %v", from, ok, r)
		}
	}
}

func TestEvict(t *testing.T) {
	for _, from := range shapes() {
		want := from
		if from.Out {
			want = settled(from.New)
		}
		r := from
		if ok := r.Evict(); ok != from.Out || r != want {
			t.Errorf("P2.1: Evict of %v: %v, %v", from, ok, r)
		}
	}
}

func TestFallKept(t *testing.T) {
	for _, from := range shapes() {
		want := from
		if from.Out {
			want = settled(from.New)
		}
		r := from
		if ok := r.Fall(true); ok != from.Out || r != want {
			t.Errorf("P2.1: Fall(true) of %v: %v, %v", from, ok, r)
		}
	}
}

func TestFallLost(t *testing.T) {
	for _, from := range shapes() {
		want := from
		if from.Out {
			want = settled(from.Lasts)
		}
		r := from
		if ok := r.Fall(false); ok != from.Out || r != want {
			t.Errorf("P2.1: Fall(false) of %v: %v, %v", from, ok, r)
		}
	}
}

// What is done twice finds nothing left to do.
func TestSettledStays(t *testing.T) {
	for _, words := range [][8]uint64{{}, {1, 2, 3, 4, 5, 6, 7, 8}} {
		from := settled(words)
		r := from
		r.Flush()
		if r.Fence() || r.Evict() || r.Fall(true) || r.Fall(false) || r != from {
			t.Errorf("P2.1: of a row that is not out, %v: %v", from, r)
		}
	}
}

// One row, told this and that: each step by the calls alone.
func TestOneRow(t *testing.T) {
	var r row.Row
	want := func(what string, lasts, newest uint64, out, sent bool) {
		t.Helper()
		if r.Lasts != [8]uint64{3: lasts} || r.New != [8]uint64{3: newest} || r.Load(3) != newest || r.Out != out || r.Sent != sent {
			t.Fatalf("P2.1: %s: %v", what, r)
		}
	}
	r.Store(3, 5)
	want("Store", 0, 5, true, false)
	r.Fall(false)
	want("Store, Fall(false)", 0, 0, false, false)
	r.Store(3, 5)
	r.Flush()
	want("Store, Flush", 0, 5, true, true)
	r.Fall(false)
	want("Store, Flush, Fall(false)", 0, 0, false, false)
	r.Store(3, 5)
	r.Flush()
	r.Store(3, 6)
	want("Store behind Flush", 0, 6, true, false)
	if r.Fence() {
		t.Errorf("P2.1: Fence of what was stored behind Flush")
	}
	want("Fence of what was stored behind Flush", 0, 6, true, false)
	r.Flush()
	r.Flush()
	r.Fence()
	want("Flush, Fence", 6, 6, false, false)
	r.Store(3, 6)
	want("Store of what lasts already", 6, 6, true, false)
	r.Evict()
	want("Evict unsent", 6, 6, false, false)
	r.Store(3, 7)
	r.Fall(true)
	want("Store, Fall(true)", 7, 7, false, false)
	r.Store(3, 8)
	r.Store(3, 9)
	r.Fall(false)
	want("two Stores, Fall(false)", 7, 7, false, false)
}

// A row that was copied goes its own way: its words are no list that both share.
func TestCopiesAreApart(t *testing.T) {
	var r row.Row
	r.Store(0, 1)
	r.Evict()
	other := r
	other.Store(0, 2)
	if r != settled([8]uint64{1}) || other.Load(0) != 2 || other.Lasts[0] != 1 {
		t.Errorf("P2.1: rows share words: %v, %v", r, other)
	}
	other.Evict()
	other.Store(1, 3)
	if other.Lasts != [8]uint64{2} {
		t.Errorf("P2.1: what lasts shares words with what is newest: %v", other)
	}
}
