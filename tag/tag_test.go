package tag_test

import (
	"math"
	"slices"
	"testing"

	"reeve/tag"
)

// fields makes fields of Froms and Lens, by turns.
func fields(l ...int) []tag.Field {
	var out []tag.Field
	for i := 0; i < len(l); i += 2 {
		out = append(out, tag.Field{From: l[i], Len: l[i+1]})
	}
	return out
}

// far: numbers that are no From and no Len of any word, where sums and counts of bits wrap round.
var far = []int{-2, -63, -64, -65, 66, 127, 128, 255, 256, 1 << 31, 1<<32 + 1, -1 << 32, 1 << 40, 1 << 62, math.MaxInt - 63, math.MaxInt - 1, math.MaxInt, math.MinInt, math.MinInt + 1, math.MinInt + 64}

// words: some that have each bit, none, and half of them.
var words = []uint64{0, 1, 1 << 63, math.MaxUint64, 0x123456789abcdef0, 0x5555555555555555, 0xaaaaaaaaaaaaaaaa, 1<<48 - 1, 0xffff << 48}

// notGood: lists that may not be, each for one reason alone, also where fields that may be stand beside it.
func notGood() [][]tag.Field {
	bad := [][]tag.Field{
		fields(-1, 1), fields(-1, 2), fields(-1, 64), fields(-1, 65), fields(64, 1), fields(64, 0), fields(64, -1), fields(65, 1),
		fields(0, 0), fields(5, 0), fields(63, 0), fields(0, -1), fields(7, -1), fields(63, -63),
		fields(0, 65), fields(1, 64), fields(5, 60), fields(32, 33), fields(62, 3), fields(63, 2), fields(63, 64),
		fields(0, 5, 4, 4), fields(4, 4, 0, 5), fields(0, 1, 0, 1), fields(63, 1, 63, 1), fields(0, 64, 5, 1), fields(5, 1, 0, 64), fields(0, 64, 0, 64),
		fields(0, 8, 16, 8, 32, 8, 7, 1), fields(0, 8, 16, 8, 32, 8, 39, 2), fields(8, 8, 0, 4, 2, 4), fields(10, 20, 12, 3),
	}
	for _, x := range far {
		bad = append(bad, fields(x, 1), fields(0, x), fields(x, x), fields(63, x), fields(x, -x), fields(x, 64-x))
	}
	for _, l := range slices.Clone(bad) {
		bad = append(bad, append(fields(50, 3), l...), append(slices.Clone(l), fields(50, 3)...))
	}
	return bad
}

// good: lists that may be.
func good() [][]tag.Field {
	var ones, backward []tag.Field
	for at := range 64 {
		ones = append(ones, tag.Field{From: at, Len: 1})
		backward = append(backward, tag.Field{From: 63 - at, Len: 1})
	}
	return [][]tag.Field{
		nil, {}, fields(0, 64), fields(0, 1), fields(63, 1), fields(0, 63), fields(1, 63), fields(32, 32), fields(7, 57), fields(62, 2),
		fields(0, 4, 4, 4), fields(4, 4, 0, 4), fields(0, 4, 5, 4), fields(0, 63, 63, 1), fields(63, 1, 0, 63), fields(0, 1, 1, 63), fields(0, 32, 32, 32),
		fields(0, 8, 8, 8, 16, 16, 32, 16), fields(16, 8, 0, 8, 60, 4), fields(0, 48, 48, 16), ones, backward,
	}
}

// owners tells for each bit which field has it (-1: none), and whether each has bits of the word alone, all its own.
func owners(l []tag.Field) (own [64]int, ok bool) {
	for at := range own {
		own[at] = -1
	}
	for i, f := range l {
		if f.From < 0 || f.From > 63 || f.Len < 1 || f.Len > 64-f.From {
			return own, false
		}
		for at := f.From; at < f.From+f.Len; at++ {
			if own[at] >= 0 {
				return own, false
			}
			own[at] = i
		}
	}
	return own, true
}

// put is Put, a bit at a time.
func put(l []tag.Field, v []uint64) (uint64, bool) {
	own, ok := owners(l)
	if !ok || len(v) != len(l) {
		return 0, false
	}
	left := slices.Clone(v)
	var w, place uint64 = 0, 1
	for _, i := range own {
		if i >= 0 {
			w += left[i] % 2 * place
			left[i] /= 2
		}
		place *= 2
	}
	for _, x := range left {
		if x != 0 {
			return 0, false
		}
	}
	return w, true
}

// split is Get and Rest, a bit at a time.
func split(w uint64, l []tag.Field) (v []uint64, rest uint64) {
	own, ok := owners(l)
	if !ok {
		return nil, w
	}
	v = make([]uint64, len(l))
	for at := 63; at >= 0; at-- {
		bit := w >> at % 2
		if i := own[at]; i >= 0 {
			v[i] = 2*v[i] + bit
		} else {
			rest += bit << at
		}
	}
	return v, rest
}

// series gives words that are the same in each run.
func series(seed uint64) func() uint64 {
	return func() uint64 {
		seed += 0x9e3779b97f4a7c15
		x := seed
		x = (x ^ x>>30) * 0xbf58476d1ce4e5b9
		x = (x ^ x>>27) * 0x94d049bb133111eb
		return x ^ x>>31
	}
}

// pieces cuts some of a word into fields that may be, in any order.
func pieces(next func() uint64) []tag.Field {
	var l []tag.Field
	for at := int(next() % 8); at < 64; {
		n := 1 + int(next()%uint64(64-at))
		if next()%2 == 0 {
			n = 1 + n%min(6, 64-at)
		}
		l = append(l, tag.Field{From: at, Len: n})
		at += n + int(next()%2*(next()%5))
	}
	for i := range l {
		j := int(next() % uint64(i+1))
		l[i], l[j] = l[j], l[i]
	}
	return l
}

func most(f tag.Field) uint64 {
	if f.Len == 64 {
		return math.MaxUint64
	}
	return 1<<f.Len - 1
}

func checkGood(t *testing.T, l []tag.Field) {
	t.Helper()
	_, want := owners(l)
	if got := tag.Good(l...); got != want {
		t.Errorf("P4.1: Good(%v): %v", l, got)
	}
}

func checkPut(t *testing.T, l []tag.Field, v ...uint64) {
	t.Helper()
	want, may := put(l, v)
	if w, ok := tag.Put(l, v...); w != want || ok != may {
		t.Errorf("P4.1: Put(%v; %d): %#x, %v, want %#x, %v", l, v, w, ok, want, may)
	}
}

func checkSplit(t *testing.T, w uint64, l []tag.Field) {
	t.Helper()
	v, rest := split(w, l)
	if got := tag.Get(w, l); !slices.Equal(got, v) {
		t.Errorf("P4.1: Get(%#x, %v): %d, want %d", w, l, got, v)
	}
	if got := tag.Rest(w, l); got != rest {
		t.Errorf("P4.1: Rest(%#x, %v): %#x, want %#x", w, l, got, rest)
	}
}

func TestGoodOfOneField(t *testing.T) {
	near := append([]int{}, far...)
	for x := -3; x <= 67; x++ {
		near = append(near, x)
	}
	for _, from := range near {
		for _, n := range near {
			checkGood(t, fields(from, n))
		}
	}
	for from := range 64 {
		if !tag.Good(fields(from, 1)...) || !tag.Good(fields(from, 64-from)...) || tag.Good(fields(from, 0)...) || tag.Good(fields(from, 65-from)...) {
			t.Errorf("P4.1: Good of From %d, at the edges of its Len", from)
		}
	}
}

// Each two fields that may be: apart, touching, with one bit in common or more, one in the other.
func TestGoodOfTwoFields(t *testing.T) {
	var all []tag.Field
	for from := range 64 {
		for n := 1; n <= 64-from; n++ {
			all = append(all, tag.Field{From: from, Len: n})
		}
	}
	for _, a := range all {
		for _, b := range all {
			want := a.From+a.Len <= b.From || b.From+b.Len <= a.From
			if got := tag.Good(a, b); got != want {
				t.Fatalf("P4.1: Good(%v, %v): %v", a, b, got)
			}
		}
	}
}

func TestGoodOfLists(t *testing.T) {
	if !tag.Good() {
		t.Errorf("P4.1: Good of no fields: false")
	}
	for _, l := range good() {
		if !tag.Good(l...) {
			t.Errorf("P4.1: Good(%v): false", l)
		}
	}
	for _, l := range notGood() {
		if tag.Good(l...) {
			t.Errorf("P4.1: Good(%v): true", l)
		}
	}
	next := series(1)
	for range 20000 {
		l := pieces(next)
		checkGood(t, l)
		if len(l) > 0 {
			f := &l[next()%uint64(len(l))]
			f.From += int(next()%5) - 2
			f.Len += int(next()%5) - 2
			checkGood(t, l)
		}
	}
}

func TestGoodOfManyFields(t *testing.T) {
	var l []tag.Field
	for at := range 64 {
		l = append(l, tag.Field{From: at, Len: 1})
	}
	for at := range 64 {
		if more := append(slices.Clone(l), tag.Field{From: at, Len: 1}); tag.Good(more...) {
			t.Errorf("P4.1: Good of 65 fields, bit %d in two", at)
		}
	}
	if tag.Good(make([]tag.Field, 1<<20)...) {
		t.Errorf("P4.1: Good of 2^20 fields of no bits")
	}
}

func TestPut(t *testing.T) {
	for i, c := range []struct {
		l    []tag.Field
		v    []uint64
		want uint64
	}{
		{fields(0, 4, 4, 4), []uint64{1, 2}, 33}, {fields(4, 4, 0, 4), []uint64{1, 2}, 18}, {nil, nil, 0}, {fields(), []uint64{}, 0},
		{fields(60, 4, 0, 8, 20, 3), []uint64{10, 200, 5}, 0xa0000000005000c8}, {fields(0, 64), []uint64{1<<63 | 1}, 1<<63 | 1},
		{fields(0, 1, 1, 62, 63, 1), []uint64{1, 0, 1}, 1<<63 | 1}, {fields(3, 5), []uint64{0}, 0},
	} {
		if w, ok := tag.Put(c.l, c.v...); w != c.want || !ok {
			t.Errorf("P4.1: Put, number %d: %#x, %v", i, w, ok)
		}
	}
	next := series(2)
	for range 20000 {
		l := pieces(next)
		v := make([]uint64, len(l))
		for i, f := range l {
			v[i] = next() & most(f)
		}
		checkPut(t, l, v...)
		if w, ok := tag.Put(l, v...); !ok || tag.Rest(w, l) != 0 || !slices.Equal(tag.Get(w, l), v) {
			t.Errorf("P4.1: Put(%v; %d): %#x, %v, of which Get tells %d, Rest %#x", l, v, w, ok, tag.Get(w, l), tag.Rest(w, l))
		}
	}
}

// Each field's largest value fits, and one more does not, whatever stands beside it.
func TestPutWhatFits(t *testing.T) {
	for from := range 64 {
		for n := 1; n <= 64-from; n++ {
			f := tag.Field{From: from, Len: n}
			if w, ok := tag.Put([]tag.Field{f}, most(f)); w != most(f)<<from || !ok {
				t.Errorf("P4.1: Put of the largest value in %v: %#x, %v", f, w, ok)
			}
			if n == 64 {
				continue
			}
			for _, v := range []uint64{most(f) + 1, most(f) + 2, 1 << 63, 1<<63 + 1, math.MaxUint64} {
				if w, ok := tag.Put([]tag.Field{f}, v); w != 0 || ok {
					t.Errorf("P4.1: Put(%v; %d): %#x, %v", f, v, w, ok)
				}
			}
		}
	}
	if w, ok := tag.Put(fields(0, 64), math.MaxUint64); w != math.MaxUint64 || !ok {
		t.Errorf("P4.1: Put of the largest value in all 64 bits: %#x, %v", w, ok)
	}
	three := fields(8, 4, 0, 8, 20, 44)
	for i, f := range three {
		v := []uint64{most(three[0]), most(three[1]), most(three[2])}
		checkPut(t, three, v...)
		v[i] = most(f) + 1
		if w, ok := tag.Put(three, v...); w != 0 || ok {
			t.Errorf("P4.1: Put, value %d does not fit: %#x, %v", i, w, ok)
		}
	}
}

func TestPutCountsValues(t *testing.T) {
	for _, l := range good() {
		for n := range len(l) + 3 {
			w, ok := tag.Put(l, make([]uint64, n)...)
			if w != 0 || ok != (n == len(l)) {
				t.Errorf("P4.1: Put of %d values in %d fields: %#x, %v", n, len(l), w, ok)
			}
		}
		ones := slices.Repeat([]uint64{1}, len(l)+1)
		if w, ok := tag.Put(l, ones...); w != 0 || ok {
			t.Errorf("P4.1: Put of one value more than %d fields: %#x, %v", len(l), w, ok)
		}
		if n := len(l); n > 0 {
			if w, ok := tag.Put(l, ones[:n-1]...); w != 0 || ok {
				t.Errorf("P4.1: Put of one value fewer than %d fields: %#x, %v", n, w, ok)
			}
		}
	}
	if w, ok := tag.Put(fields(0, 8), make([]uint64, 1<<20)...); w != 0 || ok {
		t.Errorf("P4.1: Put of 2^20 values in one field: %#x, %v", w, ok)
	}
}

func TestOfWhatIsNotGood(t *testing.T) {
	for _, l := range notGood() {
		for _, x := range []uint64{0, 1, math.MaxUint64} {
			for n := range len(l) + 2 {
				if w, ok := tag.Put(l, slices.Repeat([]uint64{x}, n)...); w != 0 || ok {
					t.Errorf("P4.1: Put of %d values in %v: %#x, %v", n, l, w, ok)
				}
			}
		}
		for _, w := range words {
			if v := tag.Get(w, l); len(v) != 0 {
				t.Errorf("P4.1: Get(%#x, %v): %d", w, l, v)
			}
			if rest := tag.Rest(w, l); rest != w {
				t.Errorf("P4.1: Rest(%#x, %v): %#x", w, l, rest)
			}
		}
	}
}

func TestGetAndRest(t *testing.T) {
	for from := range 64 {
		for n := 1; n <= 64-from; n++ {
			for _, w := range words {
				checkSplit(t, w, fields(from, n))
			}
		}
	}
	for _, l := range good() {
		for _, w := range words {
			checkSplit(t, w, l)
		}
	}
	next := series(3)
	for range 20000 {
		checkSplit(t, next(), pieces(next))
	}
	for i, c := range []struct {
		w    uint64
		l    []tag.Field
		v    []uint64
		rest uint64
	}{
		{33, fields(0, 4, 4, 4), []uint64{1, 2}, 0}, {33, fields(4, 4, 0, 4), []uint64{2, 1}, 0}, {0x1021, fields(0, 4, 4, 4), []uint64{1, 2}, 0x1000},
		{math.MaxUint64, fields(0, 64), []uint64{math.MaxUint64}, 0}, {math.MaxUint64, fields(63, 1), []uint64{1}, 1<<63 - 1},
		{0xa0000000005000c8, fields(60, 4, 0, 8), []uint64{10, 200}, 0x500000}, {77, nil, nil, 77},
	} {
		if v := tag.Get(c.w, c.l); !slices.Equal(v, c.v) {
			t.Errorf("P4.1: Get, number %d: %d", i, v)
		}
		if rest := tag.Rest(c.w, c.l); rest != c.rest {
			t.Errorf("P4.1: Rest, number %d: %#x", i, rest)
		}
	}
}

// What a word has in fields and beside them makes it whole again.
func TestPartsMakeTheWord(t *testing.T) {
	next := series(4)
	for range 20000 {
		l, w := pieces(next), next()
		in, ok := tag.Put(l, tag.Get(w, l)...)
		if rest := tag.Rest(w, l); !ok || in&rest != 0 || in|rest != w {
			t.Errorf("P4.1: of %#x, %v: %#x (%v) in the fields, %#x beside", w, l, in, ok, rest)
		}
	}
}

func TestListsStay(t *testing.T) {
	room := fields(0, 4, 4, 4, 8, 0, 1, 1)
	own := slices.Clone(room)
	values := []uint64{1, 2, 77, 78}
	tag.Good(room[:2]...)
	tag.Good(room...)
	tag.Put(room[:2], values[:2]...)
	tag.Put(room, values...)
	tag.Get(33, room[:2])
	tag.Get(33, room)
	tag.Rest(33, room[:2])
	tag.Rest(33, room)
	if !slices.Equal(room, own) || !slices.Equal(values, []uint64{1, 2, 77, 78}) {
		t.Errorf("R4: a list was changed: %v, %d", room, values)
	}
}

func TestGetAnswersNewMemory(t *testing.T) {
	l := fields(0, 4, 4, 4)
	first := tag.Get(33, l)
	second := tag.Get(33, l)
	for i := range first[:cap(first)] {
		first[:cap(first)][i] = 99
	}
	if !slices.Equal(second, []uint64{1, 2}) || !slices.Equal(tag.Get(33, l), []uint64{1, 2}) {
		t.Errorf("R4: two answers of Get share memory: %d", second)
	}
	for _, x := range second[len(second):cap(second)] {
		if x != 0 {
			t.Errorf("R4: spare room of Get's answer holds %d", x)
		}
	}
}

func TestMake(t *testing.T) {
	values := []uint64{0, 1, 5, 1<<16 - 1, 1 << 16, 1<<32 - 1, 1 << 32, 1 << 47, 1<<48 - 2, 1<<48 - 1, 1 << 48, 1<<48 + 1, 1 << 49, 1 << 63, 1<<63 + 5, math.MaxUint64}
	versions := append([]int{0, 1, 3, 255, 256, 32767, 32768, 65534, 65535, 65536, 65537, -1, 131072, 1 << 16 * 5}, far...)
	for _, value := range values {
		for _, version := range versions {
			may := value < 1<<48 && 0 <= version && version <= 65535
			var want tag.Ver
			if may {
				want = tag.Ver(value + uint64(version)*(1<<48))
			}
			x, ok := tag.Make(value, version)
			if x != want || ok != may {
				t.Errorf("P4.1: Make(%d, %d): %#x, %v", value, version, uint64(x), ok)
			}
			if ok && (x.Value() != value || x.Version() != version) {
				t.Errorf("P4.1: of Make(%d, %d): Value %d, Version %d", value, version, x.Value(), x.Version())
			}
		}
	}
	for version := range 65536 {
		if x, ok := tag.Make(9, version); !ok || x.Version() != version || x.Value() != 9 {
			t.Errorf("P4.1: Make(9, %d): %#x, %v", version, uint64(x), ok)
		}
	}
}

// Any word is a Ver, whether or not Make made it.
func TestVerOfAnyWord(t *testing.T) {
	next := series(5)
	for range 20000 {
		w := next()
		x := tag.Ver(w)
		if x.Value() != w%(1<<48) || x.Version() != int(w/(1<<48)) {
			t.Errorf("P4.1: %#x: Value %#x, Version %d", w, x.Value(), x.Version())
		}
		if again, ok := tag.Make(x.Value(), x.Version()); again != x || !ok {
			t.Errorf("P4.1: Make of what %#x tells: %#x, %v", w, uint64(again), ok)
		}
	}
	for _, w := range words {
		if x := tag.Ver(w); x.Value() != w%(1<<48) || x.Version() != int(w/(1<<48)) {
			t.Errorf("P4.1: %#x: Value %#x, Version %d", w, x.Value(), x.Version())
		}
	}
}

func TestNext(t *testing.T) {
	for version := range 65536 {
		want := version + 1
		if version == 65535 {
			want = 0
		}
		x := tag.Ver(uint64(version)<<48 | 5)
		if y, ok := x.Next(7); !ok || y.Value() != 7 || y.Version() != want {
			t.Errorf("P4.1: Next of version %d: value %d, version %d, %v", version, y.Value(), y.Version(), ok)
		}
	}
	for _, value := range []uint64{0, 5, 1<<48 - 1} {
		for _, old := range []uint64{0, 5, 1<<48 - 1} {
			if y, ok := tag.Ver(3<<48 | old).Next(value); y != tag.Ver(4<<48|value) || !ok {
				t.Errorf("P4.1: Next(%d) behind the value %d: %#x, %v", value, old, uint64(y), ok)
			}
			if y, ok := tag.Ver(65535<<48 | old).Next(value); y != tag.Ver(value) || !ok {
				t.Errorf("P4.1: Next(%d) behind 65535 and the value %d: %#x, %v", value, old, uint64(y), ok)
			}
		}
	}
	for _, value := range []uint64{1 << 48, 1<<48 + 7, 1 << 63, math.MaxUint64} {
		for _, x := range []tag.Ver{0, 5, 3<<48 | 5, 65535 << 48, math.MaxUint64} {
			if y, ok := x.Next(value); y != 0 || ok {
				t.Errorf("P4.1: Next(%d) of %#x: %#x, %v", value, uint64(x), uint64(y), ok)
			}
		}
	}
}

// Next answers another one: that which it is asked of stays.
func TestNextLeavesTheOldOne(t *testing.T) {
	x, _ := tag.Make(5, 3)
	old := x
	x.Next(7)
	x.Next(1 << 48)
	if x != old {
		t.Errorf("P4.1: Next changed %#x to %#x", uint64(old), uint64(x))
	}
}
