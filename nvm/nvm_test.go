package nvm_test

import (
	"fmt"
	"math"
	"slices"
	"testing"

	"reeve/api"
	"reeve/nvm"
)

func made(t *testing.T, rows int) *nvm.Mem {
	t.Helper()
	m, e := nvm.New(rows)
	if e != api.OK || m == nil {
		t.Fatalf("P3.1: New(%d): %v, %d", rows, m, e)
	}
	return m
}

// from makes a memory of the words 100, 101, 102 ..
func from(t *testing.T, rows int) *nvm.Mem {
	t.Helper()
	m, e := nvm.From(rising(rows*8, 100)...)
	if e != api.OK || m == nil {
		t.Fatalf("P3.1: From of %d rows: %v, %d", rows, m, e)
	}
	return m
}

func rising(n int, first uint64) []uint64 {
	l := make([]uint64, n)
	for i := range l {
		l[i] = first + uint64(i)
	}
	return l
}

func errno(t *testing.T, what string, got, want api.Errno) {
	t.Helper()
	if got != want {
		t.Errorf("P3.1: %s: %d, want %d", what, got, want)
	}
}

func word(t *testing.T, what string, m *nvm.Mem, at int, want uint64) {
	t.Helper()
	if got := m.Words()[at]; got != want {
		t.Errorf("P3.1: %s: word %d is %d, want %d", what, at, got, want)
	}
}

func out(t *testing.T, what string, m *nvm.Mem, want ...int) {
	t.Helper()
	if got := m.Out(); !slices.Equal(got, want) {
		t.Errorf("P3.1: %s: Out is %v, want %v", what, got, want)
	}
}

func count(t *testing.T, what string, m *nvm.Mem, want int64) {
	t.Helper()
	if got := m.Count(); got != want {
		t.Errorf("P3.1: %s: Count is %d, want %d", what, got, want)
	}
}

func power(t *testing.T, what string, m *nvm.Mem, want bool) {
	t.Helper()
	if m.Off() == want {
		t.Errorf("P3.1: %s: power is %v", what, !want)
	}
}

// none are numbers that are no word or row of any memory.
var none = []int{-1, -2, -7, -8, -9, -64, 8 * api.MaxRows, 1 << 31, 1<<32 + 1, 1 << 40, -1 << 40, 1<<61 + 1, math.MaxInt, math.MinInt, math.MinInt + 1}

func TestNew(t *testing.T) {
	for _, rows := range []int{1, 2, 7, 8, api.MaxRows - 1, api.MaxRows} {
		m := made(t, rows)
		if m.Rows() != rows || !slices.Equal(m.Words(), make([]uint64, 8*rows)) {
			t.Errorf("P3.1: New(%d): %d rows, %d words", rows, m.Rows(), len(m.Words()))
		}
		power(t, "New", m, true)
		out(t, "New", m)
		count(t, "New", m, 0)
		if w, e := m.Load(8*rows - 1); w != 0 || e != api.OK {
			t.Errorf("P3.1: New(%d): Load of the last word: %d, %d", rows, w, e)
		}
	}
}

func TestNewOfWrongRows(t *testing.T) {
	for _, rows := range append([]int{0, api.MaxRows + 1, api.MaxRows * 2}, none...) {
		m, e := nvm.New(rows)
		errno(t, fmt.Sprint("New of ", rows), e, api.EARG)
		if m != nil {
			t.Errorf("R2: New(%d) with an error: %v", rows, m)
		}
	}
}

func TestFrom(t *testing.T) {
	for _, rows := range []int{1, 2, 3, api.MaxRows - 1, api.MaxRows} {
		own := rising(8*rows, 1)
		m, e := nvm.From(own...)
		if e != api.OK || m.Rows() != rows || !slices.Equal(m.Words(), own) {
			t.Fatalf("P3.1: From of %d rows: %d", rows, e)
		}
		power(t, "From", m, true)
		out(t, "From", m)
		count(t, "From", m, 0)
		m.Crash()
		if !slices.Equal(m.Words(), rising(8*rows, 1)) {
			t.Errorf("P3.1: From of %d rows: the words do not last", rows)
		}
	}
	words := []uint64{0, 1, 1 << 31, 1 << 32, 1 << 63, math.MaxInt64, math.MaxUint64, 0}
	if m, e := nvm.From(words...); e != api.OK || !slices.Equal(m.Words(), words) {
		t.Errorf("P3.1: From of great words: %d", e)
	}
}

func TestFromWrongWords(t *testing.T) {
	for _, n := range []int{0, 1, 7, 9, 15, 17, 8*api.MaxRows - 1, 8*api.MaxRows + 1, 8*api.MaxRows + 7, 8 * (api.MaxRows + 1), 16 * api.MaxRows} {
		m, e := nvm.From(make([]uint64, n)...)
		errno(t, fmt.Sprintf("From of %d words", n), e, api.EARG)
		if m != nil {
			t.Errorf("R2: From of %d words with an error", n)
		}
	}
	if m, e := nvm.From(); m != nil || e != api.EARG {
		t.Errorf("P3.1: From of nothing: %v, %d", m, e)
	}
}

// What is handed in stays the caller's.
func TestFromKeepsNoList(t *testing.T) {
	spare := rising(24, 1)
	m, _ := nvm.From(spare[:16]...)
	spare[3] = 99
	word(t, "R4: From's list changed behind it", m, 3, 4)
	m.Store(4, 98)
	m.Flush(0)
	m.Fence()
	m.Crash()
	m.On()
	word(t, "R4: From's list changed behind it", m, 3, 4)
	if want := append([]uint64{1, 2, 3, 99}, rising(20, 5)...); !slices.Equal(spare, want) {
		t.Errorf("R4: From's list: %v", spare)
	}
}

func TestLoadAndStore(t *testing.T) {
	for _, rows := range []int{1, 2, 5, api.MaxRows} {
		m := from(t, rows)
		for _, at := range []int{0, 1, 7, 8*rows - 8, 8*rows - 1} {
			before := m.Words()
			if w, e := m.Load(at); e != api.OK || w != before[at] {
				t.Errorf("P3.1: Load(%d) of %d rows: %d, %d", at, rows, w, e)
			}
			errno(t, "Store", m.Store(at, math.MaxUint64-uint64(at)), api.OK)
			before[at] = math.MaxUint64 - uint64(at)
			if w, e := m.Load(at); e != api.OK || w != before[at] || !slices.Equal(m.Words(), before) {
				t.Errorf("P3.1: Store(%d) of %d rows: %d, %d", at, rows, w, e)
			}
		}
		count(t, "five Stores and ten Loads", m, 5)
	}
}

func TestNoSuchWord(t *testing.T) {
	for _, rows := range []int{1, 3, api.MaxRows} {
		m := made(t, rows)
		for _, at := range append([]int{8 * rows, 8*rows + 1, 8 * (rows + 1)}, none...) {
			what := fmt.Sprintf("word %d of %d rows", at, rows)
			w, e := m.Load(at)
			errno(t, "Load of "+what, e, api.EARG)
			errno(t, "Store of "+what, m.Store(at, 1), api.EARG)
			ok, e2 := m.Swap(at, 0, 1)
			errno(t, "Swap of "+what, e2, api.EARG)
			if w != 0 || ok {
				t.Errorf("R2: %s: %d, %v", what, w, ok)
			}
		}
		untouched(t, m)
	}
}

func TestNoSuchRow(t *testing.T) {
	for _, rows := range []int{1, 3, api.MaxRows} {
		m := made(t, rows)
		for _, r := range append([]int{rows, rows + 1, 8 * rows}, none...) {
			what := fmt.Sprintf("row %d of %d", r, rows)
			errno(t, "Flush of "+what, m.Flush(r), api.EARG)
			errno(t, "Evict of "+what, m.Evict(r), api.EARG)
		}
		untouched(t, m)
	}
}

// untouched asks whether a memory is as New made it.
func untouched(t *testing.T, m *nvm.Mem) {
	t.Helper()
	power(t, "what is refused", m, true)
	out(t, "what is refused", m)
	count(t, "what is refused", m, 0)
	if !slices.Equal(m.Words(), make([]uint64, 8*m.Rows())) {
		t.Errorf("R3: what is refused changed words")
	}
}

func TestSwap(t *testing.T) {
	m := from(t, 2)
	for _, at := range []int{0, 7, 8, 15} {
		now := uint64(100 + at)
		for _, old := range []uint64{0, now - 1, now + 1, now | 1<<63, now | 1<<32, math.MaxUint64} {
			if ok, e := m.Swap(at, old, 7); ok || e != api.OK {
				t.Errorf("P3.1: Swap(%d) of another word, %d: %v, %d", at, old, ok, e)
			}
		}
	}
	out(t, "Swaps of other words", m)
	count(t, "Swaps of other words", m, 0)
	if !slices.Equal(m.Words(), rising(16, 100)) {
		t.Errorf("P3.1: Swaps of other words stored: %v", m.Words())
	}
	if ok, e := m.Swap(15, 115, 7); !ok || e != api.OK {
		t.Errorf("P3.1: Swap: %v, %d", ok, e)
	}
	word(t, "Swap", m, 15, 7)
	out(t, "Swap", m, 1)
	count(t, "Swap", m, 1)
	if ok, e := m.Swap(15, 115, 8); ok || e != api.OK {
		t.Errorf("P3.1: Swap of what was there: %v, %d", ok, e)
	}
	if ok, e := m.Swap(0, 100, 100); !ok || e != api.OK {
		t.Errorf("P3.1: Swap of a word for itself: %v, %d", ok, e)
	}
	out(t, "Swap of a word for itself", m, 0, 1)
	count(t, "Swap of a word for itself", m, 2)
}

// A Swap is a Store: behind it a row is no longer sent.
func TestSwapUnsends(t *testing.T) {
	m := from(t, 1)
	m.Store(0, 1)
	m.Flush(0)
	if ok, e := m.Swap(0, 2, 3); ok || e != api.OK {
		t.Errorf("P3.1: Swap of another word: %v, %d", ok, e)
	}
	m.Fence()
	out(t, "a Swap of another word behind Flush", m)
	m.Store(0, 1)
	m.Flush(0)
	m.Swap(0, 1, 5)
	m.Fence()
	out(t, "a Swap behind Flush", m, 0)
	m.Crash()
	word(t, "a Swap behind Flush", m, 0, 1)
}

func TestFlushAndFence(t *testing.T) {
	m := from(t, 4)
	for r := range 4 {
		m.Store(8*r+r, uint64(r))
	}
	errno(t, "Flush of the first row", m.Flush(0), api.OK)
	errno(t, "Flush of the last row", m.Flush(3), api.OK)
	out(t, "Flush without Fence", m, 0, 1, 2, 3)
	errno(t, "Fence", m.Fence(), api.OK)
	out(t, "Fence", m, 1, 2)
	errno(t, "Fence of nothing sent", m.Fence(), api.OK)
	out(t, "Fence of nothing sent", m, 1, 2)
	count(t, "four Stores, two Flushes, two Fences", m, 8)
	m.Flush(1)
	m.Store(8, 77)
	m.Fence()
	out(t, "a Store between Flush and Fence", m, 1, 2)
	m.Crash()
	want := rising(32, 100)
	want[0], want[27] = 0, 3
	if !slices.Equal(m.Words(), want) {
		t.Errorf("P3.1: what was flushed and fenced, and nothing else, lasts: %v", m.Words())
	}
}

func TestFlushOfWhatIsNotOut(t *testing.T) {
	m := from(t, 2)
	errno(t, "Flush of a row that is not out", m.Flush(1), api.OK)
	m.Store(15, 1)
	m.Fence()
	out(t, "Flush ahead of the Store", m, 1)
	count(t, "Flush of a row that is not out", m, 3)
}

func TestEvict(t *testing.T) {
	m := from(t, 3)
	for r := range 3 {
		m.Store(8*r, uint64(r+1))
	}
	m.Flush(2)
	errno(t, "Evict of what was not sent", m.Evict(0), api.OK)
	out(t, "Evict of the first row", m, 1, 2)
	errno(t, "Evict of what was sent", m.Evict(2), api.OK)
	out(t, "Evict of the last row", m, 1)
	errno(t, "Evict of what is not out", m.Evict(2), api.OK)
	out(t, "Evict of what is not out", m, 1)
	count(t, "Evicts", m, 4)
	m.Crash()
	word(t, "Evict", m, 0, 1)
	word(t, "no Evict", m, 8, 108)
	word(t, "Evict", m, 16, 3)
}

// crashed is what stands in five rows, of which 1 is fenced, 2 sent, 3 and 4 stored alone, behind a Crash.
func crashed(t *testing.T, keep ...int) []uint64 {
	t.Helper()
	m := from(t, 5)
	for r := 1; r < 5; r++ {
		m.Store(8*r, uint64(r))
	}
	m.Flush(1)
	m.Fence()
	m.Flush(2)
	m.Crash(keep...)
	power(t, "Crash", m, false)
	out(t, "Crash", m)
	count(t, "Crash", m, 7)
	return []uint64{m.Words()[0], m.Words()[8], m.Words()[16], m.Words()[24], m.Words()[32]}
}

func TestCrash(t *testing.T) {
	for _, c := range []struct {
		keep []int
		want []uint64
	}{
		{nil, []uint64{100, 1, 116, 124, 132}},
		{[]int{}, []uint64{100, 1, 116, 124, 132}},
		{[]int{0, 1}, []uint64{100, 1, 116, 124, 132}},
		{[]int{2}, []uint64{100, 1, 2, 124, 132}},
		{[]int{4}, []uint64{100, 1, 116, 124, 4}},
		{[]int{3, 3}, []uint64{100, 1, 116, 3, 132}},
		{[]int{4, 2, 4, 2}, []uint64{100, 1, 2, 124, 4}},
		{[]int{4, 3, 2, 1, 0}, []uint64{100, 1, 2, 3, 4}},
		{append([]int{5, 16}, none...), []uint64{100, 1, 116, 124, 132}},
		{append(slices.Clone(none), 3), []uint64{100, 1, 116, 3, 132}},
	} {
		if got := crashed(t, c.keep...); !slices.Equal(got, c.want) {
			t.Errorf("P3.1: Crash(%v): %v, want %v", c.keep, got, c.want)
		}
	}
}

func TestCrashChangesNoList(t *testing.T) {
	keep := []int{4, 99, 2, 2, -1, 7, 7}
	crashed(t, keep[:5]...)
	if !slices.Equal(keep, []int{4, 99, 2, 2, -1, 7, 7}) {
		t.Errorf("R4: Crash changed its list: %v", keep)
	}
}

func TestCrashTwice(t *testing.T) {
	m := from(t, 2)
	m.Store(0, 1)
	m.Crash()
	m.Crash(0, 1)
	word(t, "a Crash without power", m, 0, 100)
	power(t, "a Crash without power", m, false)
	m.On()
	power(t, "On", m, true)
	word(t, "On", m, 0, 100)
	m.Store(0, 2)
	m.Crash(0)
	word(t, "a second Crash", m, 0, 2)
}

func TestOn(t *testing.T) {
	m := from(t, 1)
	m.On()
	power(t, "On with power", m, true)
	m.Store(3, 9)
	m.On()
	out(t, "On with power", m, 0)
	word(t, "On with power", m, 3, 9)
	m.Crash()
	m.On()
	m.On()
	power(t, "On twice", m, true)
	if w, e := m.Load(3); w != 103 || e != api.OK {
		t.Errorf("P3.1: Load behind On: %d, %d", w, e)
	}
	errno(t, "Store behind On", m.Store(3, 4), api.OK)
	errno(t, "Flush behind On", m.Flush(0), api.OK)
	errno(t, "Fence behind On", m.Fence(), api.OK)
	errno(t, "Evict behind On", m.Evict(0), api.OK)
	if ok, e := m.Swap(3, 4, 5); !ok || e != api.OK {
		t.Errorf("P3.1: Swap behind On: %v, %d", ok, e)
	}
	count(t, "behind On", m, 5)
}

// Without power each call with an Errno answers EDOWN, also of words and rows that are none, and Swap also of another word.
func TestWithoutPower(t *testing.T) {
	m := from(t, 2)
	m.Store(0, 1)
	m.Store(9, 2)
	m.Flush(1)
	m.Crash(0)
	for _, at := range append([]int{0, 9, 15, 16}, none...) {
		w, e := m.Load(at)
		errno(t, "Load without power", e, api.EDOWN)
		errno(t, "Store without power", m.Store(at, 1), api.EDOWN)
		ok, e2 := m.Swap(at, 1, 5)
		errno(t, "Swap without power", e2, api.EDOWN)
		other, e3 := m.Swap(at, 77, 5)
		errno(t, "Swap of another word without power", e3, api.EDOWN)
		errno(t, "Flush without power", m.Flush(at), api.EDOWN)
		errno(t, "Evict without power", m.Evict(at), api.EDOWN)
		if w != 0 || ok || other {
			t.Errorf("R2: without power: %d, %v, %v", w, ok, other)
		}
	}
	errno(t, "Fence without power", m.Fence(), api.EDOWN)
	want := rising(16, 100)
	want[0] = 1
	if m.Rows() != 2 || !slices.Equal(m.Words(), want) {
		t.Errorf("P3.1: without power: %d rows, %v", m.Rows(), m.Words())
	}
	out(t, "without power", m)
	count(t, "without power", m, 3)
	power(t, "what was asked without power", m, false)
}

// counted are the calls that a fuse may take the place of. Each would answer OK (true) in a memory of from.
func counted(m *nvm.Mem) map[string]func() (bool, api.Errno) {
	return map[string]func() (bool, api.Errno){
		"Store": func() (bool, api.Errno) { return false, m.Store(0, 7) },
		"Swap":  func() (bool, api.Errno) { return m.Swap(0, 100, 7) },
		"Flush": func() (bool, api.Errno) { return false, m.Flush(1) },
		"Fence": func() (bool, api.Errno) { return false, m.Fence() },
	}
}

func TestFuseAtEachCall(t *testing.T) {
	for name := range counted(nil) {
		for _, calls := range []int{1, 2, 3, 10} {
			m := from(t, 3)
			m.Store(8, 1)
			m.Store(16, 2)
			m.Flush(2)
			m.Fuse(calls, 1)
			for range calls - 1 {
				errno(t, "ahead of the fuse's call", m.Flush(0), api.OK)
			}
			ok, e := counted(m)[name]()
			errno(t, fmt.Sprintf("%s as call %d", name, calls), e, api.EDOWN)
			if ok {
				t.Errorf("P3.1: %s as call %d: true", name, calls)
			}
			power(t, "Fuse", m, false)
			out(t, "Fuse", m)
			count(t, "Fuse", m, int64(3+calls-1))
			word(t, name+" does not happen", m, 0, 100)
			word(t, name+": what the fuse keeps", m, 8, 1)
			word(t, name+": what the fuse does not keep", m, 16, 116)
			m.On()
			for range 3 * calls {
				errno(t, "behind a fuse", m.Flush(0), api.OK)
			}
		}
	}
}

// Each of these calls counts by itself.
func TestFuseCountsAllOfThem(t *testing.T) {
	for name := range counted(nil) {
		m := from(t, 3)
		m.Fuse(2)
		if _, e := counted(m)[name](); e != api.OK {
			t.Errorf("P3.1: %s as the first of two calls: %d", name, e)
		}
		errno(t, "what stands behind "+name, m.Fence(), api.EDOWN)
	}
}

func TestFuseCountsNothingElse(t *testing.T) {
	m := from(t, 2)
	m.Fuse(1, 0)
	for range 3 {
		m.Load(0)
		m.Load(16)
		m.Evict(0)
		m.Evict(2)
		m.Store(16, 1)
		m.Store(-1, 1)
		m.Flush(2)
		m.Flush(-1)
		if ok, e := m.Swap(16, 0, 1); ok || e != api.EARG {
			t.Errorf("P3.1: Swap of no word: %v, %d", ok, e)
		}
		if ok, e := m.Swap(0, 99, 1); ok || e != api.OK {
			t.Errorf("P3.1: Swap of another word with a fuse of 1: %v, %d", ok, e)
		}
		m.On()
		m.Rows()
		m.Words()
		m.Out()
		m.Count()
		power(t, "what a fuse does not count", m, true)
	}
	errno(t, "the fuse's call", m.Fence(), api.EDOWN)
}

func TestFuseOfNone(t *testing.T) {
	for _, calls := range []int{0, -1, -2, math.MinInt} {
		m := from(t, 1)
		m.Fuse(calls, 0)
		for range 5 {
			errno(t, fmt.Sprintf("behind Fuse(%d)", calls), m.Fence(), api.OK)
		}
		m.Fuse(2)
		m.Fuse(calls)
		for range 5 {
			errno(t, fmt.Sprintf("behind Fuse(2), Fuse(%d)", calls), m.Fence(), api.OK)
		}
	}
}

func TestFuseOfMany(t *testing.T) {
	m := from(t, 1)
	m.Fuse(math.MaxInt)
	for range 1000 {
		errno(t, "with a long fuse", m.Fence(), api.OK)
	}
	m.Fuse(1000)
	for range 999 {
		errno(t, "ahead of the fuse's call", m.Fence(), api.OK)
	}
	errno(t, "the 1000th call", m.Fence(), api.EDOWN)
}

// A fuse lies in the place of the one before it, with its own rows and its own calls.
func TestFuseAnew(t *testing.T) {
	m := from(t, 2)
	m.Store(0, 1)
	m.Store(8, 2)
	m.Fuse(1, 0)
	m.Fuse(3, 1)
	errno(t, "the first call", m.Fence(), api.OK)
	errno(t, "the second call", m.Fence(), api.OK)
	errno(t, "the third call", m.Fence(), api.EDOWN)
	word(t, "the former fuse's row", m, 0, 100)
	word(t, "the later fuse's row", m, 8, 2)
	m.On()
	m.Fuse(5)
	m.Fuse(1)
	errno(t, "a shorter fuse", m.Fence(), api.EDOWN)
}

func TestCrashEndsAFuse(t *testing.T) {
	m := from(t, 1)
	m.Fuse(2, 0)
	m.Fence()
	m.Crash()
	m.On()
	for range 5 {
		errno(t, "behind a Crash", m.Fence(), api.OK)
	}
	m.Store(0, 1)
	m.Crash()
	word(t, "a Crash keeps by its own list", m, 0, 100)
}

func TestFuseWithoutPower(t *testing.T) {
	m := from(t, 1)
	m.Crash()
	m.Fuse(1)
	m.Fuse(3)
	errno(t, "without power", m.Fence(), api.EDOWN)
	m.On()
	for range 5 {
		errno(t, "behind a Fuse without power", m.Fence(), api.OK)
	}
}

// fused is what stands in three rows, of which 1 and 2 are out, behind a fuse that keeps these.
func fused(t *testing.T, keep ...int) []uint64 {
	t.Helper()
	m := from(t, 3)
	m.Store(8, 1)
	m.Store(16, 2)
	m.Fuse(1, keep...)
	clear(keep)
	errno(t, "the fuse's call", m.Fence(), api.EDOWN)
	return []uint64{m.Words()[0], m.Words()[8], m.Words()[16]}
}

func TestFuseKeeps(t *testing.T) {
	for _, c := range []struct {
		keep []int
		want []uint64
	}{
		{nil, []uint64{100, 108, 116}},
		{[]int{}, []uint64{100, 108, 116}},
		{[]int{0}, []uint64{100, 108, 116}},
		{[]int{1, 1}, []uint64{100, 1, 116}},
		{[]int{2, 1, 2}, []uint64{100, 1, 2}},
		{[]int{2, 3, -1, 16}, []uint64{100, 108, 2}},
		{slices.Clone(none), []uint64{100, 108, 116}},
	} {
		if got := fused(t, slices.Clone(c.keep)...); !slices.Equal(got, c.want) {
			t.Errorf("P3.1: Fuse(1, %v): %v, want %v", c.keep, got, c.want)
		}
	}
	keep := []int{2, 9, -1}
	m := from(t, 3)
	m.Fuse(1, keep[:2]...)
	m.Fence()
	if !slices.Equal(keep, []int{2, 9, -1}) {
		t.Errorf("R4: Fuse changed its list: %v", keep)
	}
}

func TestWordsAreNew(t *testing.T) {
	m := from(t, 2)
	for range 2 {
		l := m.Words()
		clear(l[:cap(l)])
		if !slices.Equal(m.Words(), rising(16, 100)) {
			t.Errorf("R4: Words shares what it answers: %v", m.Words())
		}
		m.Crash()
	}
}

func TestOutIsNew(t *testing.T) {
	m := from(t, 12)
	for _, r := range []int{11, 0, 5, 5} {
		m.Store(8*r+r%8, 1)
	}
	l := m.Out()
	clear(l[:cap(l)])
	out(t, "R4: Out", m, 0, 5, 11)
}

func TestWordsAreNewest(t *testing.T) {
	m := from(t, 2)
	m.Store(15, 1)
	word(t, "Words of what was stored", m, 15, 1)
	m.Flush(1)
	m.Store(15, 2)
	word(t, "Words of what was sent, and stored anew", m, 15, 2)
	m.Crash()
	word(t, "Words without power", m, 15, 115)
}

// Two memories have nothing of each other.
func TestMemoriesAreApart(t *testing.T) {
	a, b := from(t, 1), from(t, 1)
	a.Store(0, 1)
	a.Fuse(1, 0)
	errno(t, "the fuse of another memory", b.Fence(), api.OK)
	a.Crash()
	power(t, "the Crash of another memory", b, true)
	word(t, "the Store of another memory", b, 0, 100)
	count(t, "the calls of another memory", b, 1)
}
