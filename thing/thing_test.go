package thing_test

import (
	"encoding/binary"
	"math"
	"slices"
	"testing"

	"reeve/api"
	"reeve/thing"
)

// fields are the places of a thing that may stay zero, by the chapter's names.
var fields = []string{"Bits", "Base", "Size", "Used", "From", "Badge", "Full", "Word", "Data0", "Data1", "Data2", "Data3"}

// has is the chapter's table: the fields of each kind. (Of a Mail: of one that is Full.)
var has = map[int][]string{
	0: {},
	1: {"Size", "Used"},
	2: {"Bits", "Base"},
	3: {"Full", "Word", "Badge", "From"},
	4: {"Word"},
	5: {"Data0", "Data1", "Data2", "Data3"},
}

// set puts x in a field by its name; in Full, true of what is not 0.
func set(t *thing.Thing, name string, x int) {
	switch name {
	case "Bits":
		t.Bits = x
	case "Base":
		t.Base = x
	case "Size":
		t.Size = x
	case "Used":
		t.Used = x
	case "From":
		t.From = x
	case "Badge":
		t.Badge = x
	case "Full":
		t.Full = x != 0
	case "Word":
		t.Word = uint64(x)
	default:
		t.Data[name[4]-'0'] = uint64(x)
	}
}

// zero tells whether a field has nothing in it.
func zero(t thing.Thing, name string) bool {
	x := t
	set(&x, name, 0)
	return x == t
}

// mayBe is the chapter's Good, told by its table, a field at a time.
func mayBe(t thing.Thing) bool {
	own, ok := has[t.Type]
	if !ok {
		return false
	}
	if t.Type == 3 && !t.Full {
		own = nil
	}
	for _, name := range fields {
		if !slices.Contains(own, name) && !zero(t, name) {
			return false
		}
	}
	switch t.Type {
	case 1:
		return t.Size > 0 && t.Size < 4097 && t.Used > -1 && t.Used < t.Size+1
	case 2:
		last, ok := map[int]int{1: 94, 2: 92, 3: 88, 4: 80}[t.Bits]
		return ok && t.Base > -1 && t.Base < last+1
	case 3:
		return t.Badge > -1 && t.Badge < 65536 && t.From > -1 && t.From < 97
	}
	return true
}

// wordsOf is the chapter's words, byte by byte, of one that may be.
func wordsOf(t thing.Thing) []uint64 {
	b := make([]byte, 64)
	b[0], b[1], b[2], b[4] = byte(t.Type), byte(t.Bits), byte(t.Base), byte(t.From)
	if t.Full {
		b[3] = 1
	}
	binary.LittleEndian.PutUint16(b[8:], uint16(t.Size))
	binary.LittleEndian.PutUint16(b[10:], uint16(t.Used))
	binary.LittleEndian.PutUint16(b[12:], uint16(t.Badge))
	binary.LittleEndian.PutUint64(b[16:], t.Word)
	for i, w := range t.Data {
		binary.LittleEndian.PutUint64(b[24+8*i:], w)
	}
	l := make([]uint64, 8)
	for i := range l {
		l[i] = binary.LittleEndian.Uint64(b[8*i:])
	}
	return l
}

// read is what the bytes of a list tell, and whether a thing that may be has just such words.
func read(l []uint64) (thing.Thing, bool) {
	if len(l) != 8 {
		return thing.Thing{}, false
	}
	var b []byte
	for _, w := range l {
		b = binary.LittleEndian.AppendUint64(b, w)
	}
	short := func(at int) int { return int(b[at]) + 256*int(b[at+1]) }
	t := thing.Thing{Type: int(b[0]), Bits: int(b[1]), Base: int(b[2]), Full: b[3] != 0, From: int(b[4])}
	t.Size, t.Used, t.Badge = short(8), short(10), short(12)
	t.Word, t.Data = l[2], [4]uint64(l[3:7])
	if !mayBe(t) || !slices.Equal(wordsOf(t), l) {
		return thing.Thing{}, false
	}
	return t, true
}

// goodThings gives nothing, and things of each kind with their fields at the edges and between.
func goodThings() []thing.Thing {
	l := []thing.Thing{{}, {Type: 3}, {Type: 4}, {Type: 5}}
	for _, size := range []int{1, 2, 255, 256, 257, 2048, 4095, 4096} {
		for _, used := range []int{0, 1, 2, 255, 256, 1000, size - 1, size} {
			if used <= size {
				l = append(l, thing.Thing{Type: 1, Size: size, Used: used})
			}
		}
	}
	for i, last := range []int{94, 92, 88, 80} {
		for base := range last + 1 {
			l = append(l, thing.Thing{Type: 2, Bits: i + 1, Base: base})
		}
	}
	for _, w := range anyWords() {
		for _, badge := range []int{0, 1, 2, 255, 256, 32768, 65534, 65535} {
			for _, from := range []int{0, 1, 2, 48, 64, 95, 96} {
				l = append(l, thing.Thing{Type: 3, Full: true, Word: w, Badge: badge, From: from})
			}
		}
		l = append(l, thing.Thing{Type: 4, Word: w}, thing.Thing{Type: 5, Data: [4]uint64{w, ^w, w + 1, w * 3}})
		for i := range 4 {
			leaf := thing.Thing{Type: 5}
			leaf.Data[i] = w
			l = append(l, leaf)
		}
	}
	return l
}

func anyWords() []uint64 {
	return []uint64{0, 1, 2, 9, 1 << 8, 1 << 16, 1 << 32, 1 << 48, 1 << 63, math.MaxUint64, 0x0123456789abcdef}
}

// far gives numbers whose low bits are those of x, but that are another.
func far(x int) []int {
	return []int{x + 1<<8, x + 1<<16, x + 1<<31, x + 1<<32, x + 1<<48, x + math.MinInt, x - 1<<8, x - 1<<16, x - 1<<32}
}

func anyNumbers() []int {
	l := []int{math.MinInt, math.MinInt + 1, -65536, -4096, -96, -8, -3, -2, -1, 0, 1, 2, 3, 4, 5, 6, 7, 8, 16, 32, 63, 64, 80, 81, 88, 89, 92, 93, 94, 95, 96, 97, 255, 256, 4095, 4096, 4097, 65535, 65536, 1 << 31, 1 << 32, 1<<32 + 1, 1 << 62, math.MaxInt}
	return append(append(append(l, far(1)...), far(3)...), far(0)...)
}

// largest gives each kind with every field that it has at its largest.
func largest() []thing.Thing {
	const most = math.MaxUint64
	return []thing.Thing{{}, {Type: 1, Size: 4096, Used: 4096}, {Type: 2, Bits: 4, Base: 80}, {Type: 2, Bits: 1, Base: 94}, {Type: 3, Full: true, Word: most, Badge: 65535, From: 96}, {Type: 3}, {Type: 4, Word: most}, {Type: 5, Data: [4]uint64{most, most, most, most}}}
}

// least gives each kind with every field that it has at its least.
func least() []thing.Thing {
	return []thing.Thing{{}, {Type: 1, Size: 1}, {Type: 2, Bits: 1}, {Type: 3}, {Type: 3, Full: true}, {Type: 4}, {Type: 5}}
}

// check holds Good and Put of any thing, and Get of what Put writes, against the chapter.
func check(t *testing.T, x thing.Thing) {
	t.Helper()
	fine := mayBe(x)
	if got := thing.Good(x); got != fine {
		t.Errorf("P11.1: Good(%+v): %v", x, got)
	}
	l := thing.Put(x)
	if !fine {
		if len(l) != 0 {
			t.Errorf("P11.1: Put(%+v), which is not Good: %x", x, l)
		}
		return
	}
	if want := wordsOf(x); !slices.Equal(l, want) {
		t.Errorf("P11.1: Put(%+v): %x, want %x", x, l, want)
	}
	if got, ok := thing.Get(l...); got != x || !ok {
		t.Errorf("P11.1: Get(%x): %+v, %v, want %+v", l, got, ok, x)
	}
}

// checkGet holds Get of any words against what their bytes tell, and Put against it.
func checkGet(t *testing.T, l ...uint64) {
	t.Helper()
	want, fine := read(l)
	got, ok := thing.Get(l...)
	if got != want || ok != fine {
		t.Errorf("P11.1: Get(%x): %+v, %v, want %+v, %v", l, got, ok, want, fine)
	}
	if ok && !slices.Equal(thing.Put(got), l) {
		t.Errorf("P11.1: Put(Get(%x)): %x", l, thing.Put(got))
	}
}

func TestTheGivenNumbers(t *testing.T) {
	if api.Room != 1 || api.Node != 2 || api.Mail != 3 || api.Bell != 4 || api.Leaf != 5 || api.MaxRoom != 4096 || api.MaxBits != 4 || api.MaxSlots != 96 || api.MaxBadge != 65535 || api.RowWords != 8 || api.LeafWords != 4 {
		t.Errorf("the tests' numbers are not api's")
	}
}

func TestGoodThings(t *testing.T) {
	for _, x := range append(append(goodThings(), largest()...), least()...) {
		if !mayBe(x) || !thing.Good(x) {
			t.Errorf("P11.1: Good(%+v): false", x)
		}
		check(t, x)
	}
}

func TestEachFieldByItself(t *testing.T) {
	for _, x := range append(append(goodThings()[:100], largest()...), least()...) {
		for _, name := range fields {
			for _, n := range anyNumbers() {
				y := x
				set(&y, name, n)
				check(t, y)
			}
		}
		for _, n := range anyNumbers() {
			y := x
			y.Type = n
			check(t, y)
		}
	}
}

func TestAFieldThatAKindHasNot(t *testing.T) {
	for _, x := range append(largest(), least()...) {
		for _, name := range fields {
			own := slices.Contains(has[x.Type], name) && (x.Type != 3 || x.Full || name == "Full")
			for _, n := range []int{1, -1, 2, 255, 256, 1 << 16, 1 << 32, math.MaxInt, math.MinInt} {
				y := x
				set(&y, name, n)
				if !own && (thing.Good(y) || len(thing.Put(y)) != 0) {
					t.Errorf("P11.1: Good, Put of %+v, with %s", y, name)
				}
			}
		}
	}
}

func TestAnyTwoFieldsOfAnyKind(t *testing.T) {
	numbers := []int{-1, 0, 1, 2, 4, 5, 80, 81, 94, 95, 96, 97, 4096, 4097, 65535, 65536, 1 << 32}
	for kind := -1; kind <= 6; kind++ {
		for i, one := range fields {
			for _, other := range fields[i+1:] {
				for _, n := range numbers {
					for _, m := range numbers {
						x := thing.Thing{Type: kind}
						set(&x, one, n)
						set(&x, other, m)
						check(t, x)
						x.Full = true
						check(t, x)
					}
				}
			}
		}
	}
}

func TestNodesAtTheEdges(t *testing.T) {
	for bits := -3; bits <= 70; bits++ {
		for base := -130; base <= 130; base++ {
			check(t, thing.Thing{Type: 2, Bits: bits, Base: base})
		}
		for _, base := range anyNumbers() {
			check(t, thing.Thing{Type: 2, Bits: bits, Base: base})
		}
	}
}

func TestRoomsAtTheEdges(t *testing.T) {
	for size := -2; size <= 4100; size++ {
		for _, used := range []int{math.MinInt, -4096, -1, 0, 1, size / 2, size - 1, size, size + 1, 4096, 4097, math.MaxInt} {
			check(t, thing.Thing{Type: 1, Size: size, Used: used})
		}
	}
	for used := -1; used <= 4097; used++ {
		check(t, thing.Thing{Type: 1, Size: 4096, Used: used})
		check(t, thing.Thing{Type: 1, Size: 1000, Used: used})
	}
}

func TestMailsAtTheEdges(t *testing.T) {
	for badge := -2; badge <= 65537; badge++ {
		check(t, thing.Thing{Type: 3, Full: true, Badge: badge, From: badge % 100})
	}
	for from := -300; from <= 300; from++ {
		check(t, thing.Thing{Type: 3, Full: true, From: from})
		check(t, thing.Thing{Type: 3, Full: true, Word: 5, Badge: 65535, From: from})
		check(t, thing.Thing{Type: 3, From: from})
	}
}

func TestGoodInNumbers(t *testing.T) {
	for _, c := range []struct {
		x    thing.Thing
		want bool
	}{
		{thing.Thing{}, true}, {thing.Thing{Type: -1}, false}, {thing.Thing{Type: 6}, false}, {thing.Thing{Type: 1 << 32}, false}, {thing.Thing{Type: 257, Size: 1}, false},
		{thing.Thing{Bits: 1}, false}, {thing.Thing{Base: 1}, false}, {thing.Thing{Size: 1}, false}, {thing.Thing{Used: 1}, false}, {thing.Thing{From: 1}, false}, {thing.Thing{Badge: 1}, false}, {thing.Thing{Full: true}, false}, {thing.Thing{Word: 1}, false}, {thing.Thing{Data: [4]uint64{0, 0, 0, 1}}, false},
		{thing.Thing{Type: 1}, false}, {thing.Thing{Type: 1, Size: 1}, true}, {thing.Thing{Type: 1, Size: 4096}, true}, {thing.Thing{Type: 1, Size: 4097}, false}, {thing.Thing{Type: 1, Size: -1}, false}, {thing.Thing{Type: 1, Size: -1, Used: -1}, false},
		{thing.Thing{Type: 1, Size: 1, Used: 1}, true}, {thing.Thing{Type: 1, Size: 1, Used: 2}, false}, {thing.Thing{Type: 1, Size: 4096, Used: 4096}, true}, {thing.Thing{Type: 1, Size: 4096, Used: 4097}, false}, {thing.Thing{Type: 1, Size: 4096, Used: -1}, false}, {thing.Thing{Type: 1, Used: 0, Bits: 1, Size: 1}, false},
		{thing.Thing{Type: 2}, false}, {thing.Thing{Type: 2, Bits: 1}, true}, {thing.Thing{Type: 2, Bits: 4}, true}, {thing.Thing{Type: 2, Bits: 5}, false}, {thing.Thing{Type: 2, Bits: -1}, false}, {thing.Thing{Type: 2, Bits: 6}, false}, {thing.Thing{Type: 2, Bits: 65}, false},
		{thing.Thing{Type: 2, Bits: 1, Base: 94}, true}, {thing.Thing{Type: 2, Bits: 1, Base: 95}, false}, {thing.Thing{Type: 2, Bits: 2, Base: 92}, true}, {thing.Thing{Type: 2, Bits: 2, Base: 93}, false}, {thing.Thing{Type: 2, Bits: 3, Base: 88}, true}, {thing.Thing{Type: 2, Bits: 3, Base: 89}, false}, {thing.Thing{Type: 2, Bits: 4, Base: 80}, true}, {thing.Thing{Type: 2, Bits: 4, Base: 81}, false}, {thing.Thing{Type: 2, Bits: 1, Base: -1}, false},
		{thing.Thing{Type: 3}, true}, {thing.Thing{Type: 3, Word: 1}, false}, {thing.Thing{Type: 3, Badge: 1}, false}, {thing.Thing{Type: 3, From: 1}, false},
		{thing.Thing{Type: 3, Full: true}, true}, {thing.Thing{Type: 3, Full: true, Word: math.MaxUint64}, true}, {thing.Thing{Type: 3, Full: true, Badge: 65535}, true}, {thing.Thing{Type: 3, Full: true, Badge: 65536}, false}, {thing.Thing{Type: 3, Full: true, Badge: -1}, false}, {thing.Thing{Type: 3, Full: true, From: 96}, true}, {thing.Thing{Type: 3, Full: true, From: 97}, false}, {thing.Thing{Type: 3, Full: true, From: -1}, false}, {thing.Thing{Type: 3, Full: true, Data: [4]uint64{1}}, false},
		{thing.Thing{Type: 4}, true}, {thing.Thing{Type: 4, Word: math.MaxUint64}, true}, {thing.Thing{Type: 4, Full: true}, false}, {thing.Thing{Type: 4, Word: 1, Badge: 1}, false}, {thing.Thing{Type: 4, Data: [4]uint64{1}}, false},
		{thing.Thing{Type: 5}, true}, {thing.Thing{Type: 5, Data: [4]uint64{1, 2, 3, math.MaxUint64}}, true}, {thing.Thing{Type: 5, Word: 1}, false}, {thing.Thing{Type: 5, Full: true}, false}, {thing.Thing{Type: 5, Size: 1}, false},
	} {
		if got := thing.Good(c.x); got != c.want {
			t.Errorf("P11.1: Good(%+v): %v", c.x, got)
		}
	}
}

func TestPutAndGetInNumbers(t *testing.T) {
	for _, c := range []struct {
		x thing.Thing
		l []uint64
	}{
		{thing.Thing{}, []uint64{0, 0, 0, 0, 0, 0, 0, 0}},
		{thing.Thing{Type: 1, Size: 0x123, Used: 0x45}, []uint64{1, 0x450123, 0, 0, 0, 0, 0, 0}},
		{thing.Thing{Type: 1, Size: 4096, Used: 4096}, []uint64{1, 0x10001000, 0, 0, 0, 0, 0, 0}},
		{thing.Thing{Type: 2, Bits: 3, Base: 88}, []uint64{0x580302, 0, 0, 0, 0, 0, 0, 0}},
		{thing.Thing{Type: 2, Bits: 1, Base: 94}, []uint64{0x5e0102, 0, 0, 0, 0, 0, 0, 0}},
		{thing.Thing{Type: 3}, []uint64{3, 0, 0, 0, 0, 0, 0, 0}},
		{thing.Thing{Type: 3, Full: true}, []uint64{0x1000003, 0, 0, 0, 0, 0, 0, 0}},
		{thing.Thing{Type: 3, Full: true, Word: math.MaxUint64, Badge: 65535, From: 96}, []uint64{0x6001000003, 0xffff00000000, math.MaxUint64, 0, 0, 0, 0, 0}},
		{thing.Thing{Type: 3, Full: true, Word: 7, Badge: 0x1234, From: 1}, []uint64{0x101000003, 0x123400000000, 7, 0, 0, 0, 0, 0}},
		{thing.Thing{Type: 4, Word: 1 << 63}, []uint64{4, 0, 1 << 63, 0, 0, 0, 0, 0}},
		{thing.Thing{Type: 5, Data: [4]uint64{1, 2, 3, math.MaxUint64}}, []uint64{5, 0, 0, 1, 2, 3, math.MaxUint64, 0}},
	} {
		if l := thing.Put(c.x); !slices.Equal(l, c.l) {
			t.Errorf("P11.1: Put(%+v): %x, want %x", c.x, l, c.l)
		}
		if x, ok := thing.Get(c.l...); x != c.x || !ok {
			t.Errorf("P11.1: Get(%x): %+v, %v, want %+v", c.l, x, ok, c.x)
		}
	}
}

func TestGetOfABitMore(t *testing.T) {
	for _, x := range append(append(goodThings(), largest()...), least()...) {
		l := wordsOf(x)
		for at := range l {
			for bit := range 64 {
				l[at] ^= 1 << bit
				checkGet(t, l...)
				l[at] ^= 1 << bit
			}
		}
	}
}

func TestGetOfBitsThatAreNoFields(t *testing.T) {
	none := []uint64{0xffffff00fe000000, 0xffff << 48, 0, 0, 0, 0, 0, math.MaxUint64}
	for _, x := range append(append(goodThings(), largest()...), least()...) {
		for at, bits := range none {
			for bit := range 64 {
				l := wordsOf(x)
				l[at] |= bits & (1 << bit)
				if y, ok := thing.Get(l...); bits>>bit&1 == 1 && (ok || y != thing.Thing{}) {
					t.Errorf("P11.1: Get(%x): %+v, %v", l, y, ok)
				}
			}
		}
	}
}

func TestGetOfOtherLengths(t *testing.T) {
	for _, x := range append(largest(), least()...) {
		long := append(wordsOf(x), wordsOf(x)...)
		long = append(long, make([]uint64, 64)...)
		for n := range long {
			y, ok := thing.Get(long[:n]...)
			if ok != (n == 8) || !ok && y != (thing.Thing{}) {
				t.Errorf("P11.1: Get of %d words of %+v: %+v, %v", n, x, y, ok)
			}
			if y, ok := thing.Get(make([]uint64, n)...); ok != (n == 8) || y != (thing.Thing{}) {
				t.Errorf("P11.1: Get of %d zero words: %+v, %v", n, y, ok)
			}
		}
	}
	if y, ok := thing.Get(); ok || y != (thing.Thing{}) {
		t.Errorf("P11.1: Get of nothing: %+v, %v", y, ok)
	}
	if y, ok := thing.Get(nil...); ok || y != (thing.Thing{}) {
		t.Errorf("R4: Get of nil: %+v, %v", y, ok)
	}
	if y, ok := thing.Get(make([]uint64, 1<<16)...); ok || y != (thing.Thing{}) {
		t.Errorf("P11.1: Get of many words: %+v, %v", y, ok)
	}
}

func TestGetOfAnyFirstWords(t *testing.T) {
	for low := range uint64(1 << 16) {
		for _, high := range []uint64{0, 80 << 16, 81 << 16, 1 << 24, 2 << 24, 255 << 24, 1<<32 | 1<<24, 96<<32 | 1<<24, 97<<32 | 1<<24, 1 << 32, 1 << 40, 1 << 63} {
			checkGet(t, high|low, 0, 0, 0, 0, 0, 0, 0)
		}
		for _, kind := range []uint64{0, 1, 2, 3, 3 | 1<<24, 4, 5} {
			checkGet(t, kind, low, 0, 0, 0, 0, 0, 0)
			checkGet(t, kind, low<<16|4096, 0, 0, 0, 0, 0, 0)
			checkGet(t, kind, low<<32, 0, 0, 0, 0, 0, 0)
			checkGet(t, kind, low<<48, 0, 0, 0, 0, 0, 0)
			checkGet(t, kind|low<<16, 0, 0, 0, 0, 0, 0, 0)
			checkGet(t, kind|low<<32, 0, 1, 0, 0, 0, 0, 0)
		}
	}
}

// dice tells numbers that seem to be any, but are the same in each run.
type dice uint64

func (d *dice) next() uint64 {
	*d ^= *d << 13
	*d ^= *d >> 7
	*d ^= *d << 17
	return uint64(*d)
}

func (d *dice) below(n int) int { return int(d.next() >> 1 % uint64(n)) }

func TestGetOfAnyWords(t *testing.T) {
	d := dice(88172645463325252)
	for range 30000 {
		l := make([]uint64, 8)
		for i := range l {
			l[i] = d.next()
		}
		checkGet(t, l...)
		l[7] = 0
		checkGet(t, l...)
		l[0], l[1] = l[0]&0x7f011f0707, l[1]&0xffff0fff1fff
		checkGet(t, l...)
		for i := 2; i < 7; i++ {
			if d.below(3) > 0 {
				l[i] = 0
			}
		}
		checkGet(t, l...)
		l[0] &= 0xff01000007
		checkGet(t, l...)
		l[0], l[1] = l[0]&7, 0
		checkGet(t, l...)
	}
	most := slices.Repeat([]uint64{math.MaxUint64}, 8)
	checkGet(t, most...)
}

// costs is the chapter's Cost, told by a table of nodes.
func costs(kind, size int) (int, bool) {
	if n, ok := map[int]int{1: 2, 2: 4, 3: 8, 4: 16}[size]; kind == 2 {
		return n, ok
	}
	if kind == 1 && (size < 1 || size > 4096) {
		return 0, false
	}
	n, ok := map[int]int{1: size, 3: 1, 4: 1, 5: 2}[kind]
	return n, ok
}

func TestCost(t *testing.T) {
	sizes := anyNumbers()
	for size := -5; size <= 4100; size++ {
		sizes = append(sizes, size)
	}
	for _, kind := range append(anyNumbers(), far(2)...) {
		for _, size := range sizes {
			want, fine := costs(kind, size)
			if n, ok := thing.Cost(kind, size); n != want || ok != fine {
				t.Errorf("P11.1: Cost(%d, %d): %d, %v, want %d, %v", kind, size, n, ok, want, fine)
			}
		}
	}
}

func TestCostInNumbers(t *testing.T) {
	for _, c := range []struct {
		kind, size, n int
		ok            bool
	}{
		{1, 1, 1, true}, {1, 2, 2, true}, {1, 4095, 4095, true}, {1, 4096, 4096, true}, {1, 4097, 0, false}, {1, 0, 0, false}, {1, -1, 0, false}, {1, math.MaxInt, 0, false}, {1, math.MinInt, 0, false},
		{2, 1, 2, true}, {2, 2, 4, true}, {2, 3, 8, true}, {2, 4, 16, true}, {2, 5, 0, false}, {2, 0, 0, false}, {2, -1, 0, false}, {2, 64, 0, false}, {2, math.MaxInt, 0, false}, {2, math.MinInt, 0, false},
		{3, 0, 1, true}, {3, 1, 1, true}, {3, -1, 1, true}, {3, math.MaxInt, 1, true}, {3, math.MinInt, 1, true},
		{4, 0, 1, true}, {4, 99, 1, true}, {4, math.MaxInt, 1, true}, {4, math.MinInt, 1, true},
		{5, 0, 2, true}, {5, 3, 2, true}, {5, math.MaxInt, 2, true}, {5, math.MinInt, 2, true},
		{0, 0, 0, false}, {0, 1, 0, false}, {6, 0, 0, false}, {6, 1, 0, false}, {-1, 1, 0, false}, {1<<32 + 1, 1, 0, false}, {math.MinInt, 1, 0, false}, {math.MaxInt, 1, 0, false},
	} {
		if n, ok := thing.Cost(c.kind, c.size); n != c.n || ok != c.ok {
			t.Errorf("P11.1: Cost(%d, %d): %d, %v, want %d, %v", c.kind, c.size, n, ok, c.n, c.ok)
		}
	}
}

// made is the chapter's New: what is empty of that kind, size and base, if it costs and may be.
func made(kind, size, base int) (thing.Thing, bool) {
	x := map[int]thing.Thing{1: {Type: 1, Size: size}, 2: {Type: 2, Bits: size, Base: base}, 3: {Type: 3}, 4: {Type: 4}, 5: {Type: 5}}[kind]
	if _, ok := costs(kind, size); !ok || !mayBe(x) {
		return thing.Thing{}, false
	}
	return x, true
}

func checkNew(t *testing.T, kind, size, base int) {
	t.Helper()
	want, fine := made(kind, size, base)
	x, ok := thing.New(kind, size, base)
	if x != want || ok != fine {
		t.Errorf("P11.1: New(%d, %d, %d): %+v, %v, want %+v, %v", kind, size, base, x, ok, want, fine)
	}
	if ok && !thing.Good(x) {
		t.Errorf("P11.1: New(%d, %d, %d) is not Good: %+v", kind, size, base, x)
	}
}

func TestNew(t *testing.T) {
	kinds := append([]int{-1, 0, 1, 2, 3, 4, 5, 6, math.MinInt, math.MaxInt}, far(2)...)
	for _, kind := range kinds {
		for _, size := range anyNumbers() {
			for _, base := range anyNumbers() {
				checkNew(t, kind, size, base)
			}
		}
		for size := -2; size <= 70; size++ {
			for base := -2; base <= 130; base++ {
				checkNew(t, kind, size, base)
			}
		}
		for size := 4000; size <= 4100; size++ {
			checkNew(t, kind, size, 0)
		}
	}
}

func TestNewInNumbers(t *testing.T) {
	for _, c := range []struct {
		kind, size, base int
		x                thing.Thing
		ok               bool
	}{
		{1, 1, 0, thing.Thing{Type: 1, Size: 1}, true}, {1, 4096, 7, thing.Thing{Type: 1, Size: 4096}, true}, {1, 0, 0, thing.Thing{}, false}, {1, 4097, 0, thing.Thing{}, false}, {1, 5, -1, thing.Thing{Type: 1, Size: 5}, true}, {1, 5, 97, thing.Thing{Type: 1, Size: 5}, true},
		{2, 1, 94, thing.Thing{Type: 2, Bits: 1, Base: 94}, true}, {2, 1, 95, thing.Thing{}, false}, {2, 2, 92, thing.Thing{Type: 2, Bits: 2, Base: 92}, true}, {2, 2, 93, thing.Thing{}, false}, {2, 3, 88, thing.Thing{Type: 2, Bits: 3, Base: 88}, true}, {2, 3, 89, thing.Thing{}, false}, {2, 4, 80, thing.Thing{Type: 2, Bits: 4, Base: 80}, true}, {2, 4, 81, thing.Thing{}, false},
		{2, 1, 0, thing.Thing{Type: 2, Bits: 1}, true}, {2, 4, 0, thing.Thing{Type: 2, Bits: 4}, true}, {2, 3, 8, thing.Thing{Type: 2, Bits: 3, Base: 8}, true}, {2, 0, 0, thing.Thing{}, false}, {2, 5, 0, thing.Thing{}, false}, {2, 1, -1, thing.Thing{}, false}, {2, 4, -1, thing.Thing{}, false}, {2, 3, math.MinInt, thing.Thing{}, false}, {2, 3, math.MaxInt, thing.Thing{}, false},
		{3, 0, 0, thing.Thing{Type: 3}, true}, {3, -7, 500, thing.Thing{Type: 3}, true}, {4, 3, -99, thing.Thing{Type: 4}, true}, {4, math.MaxInt, math.MaxInt, thing.Thing{Type: 4}, true}, {5, 1, 1, thing.Thing{Type: 5}, true}, {5, math.MinInt, math.MinInt, thing.Thing{Type: 5}, true},
		{0, 0, 0, thing.Thing{}, false}, {0, 1, 0, thing.Thing{}, false}, {6, 1, 0, thing.Thing{}, false}, {-1, 1, 0, thing.Thing{}, false}, {1<<32 + 2, 1, 0, thing.Thing{}, false},
	} {
		if x, ok := thing.New(c.kind, c.size, c.base); x != c.x || ok != c.ok {
			t.Errorf("P11.1: New(%d, %d, %d): %+v, %v, want %+v, %v", c.kind, c.size, c.base, x, ok, c.x, c.ok)
		}
	}
}

func TestListsAreNotShared(t *testing.T) {
	for _, x := range append(largest(), least()...) {
		room := append(wordsOf(x), 11, 12, 13)
		l := room[:8]
		thing.Get(l...)
		if !slices.Equal(l, wordsOf(x)) || !slices.Equal(room[8:], []uint64{11, 12, 13}) {
			t.Errorf("R4: Get of %+v changed its words: %x", x, room)
		}
		one, other := thing.Put(x), thing.Put(x)
		if spare := one[:cap(one)][8:]; slices.ContainsFunc(spare, func(w uint64) bool { return w != 0 }) {
			t.Errorf("R4: Put(%+v): something in the spare room: %x", x, spare)
		}
		one = one[:cap(one)]
		for i := range one {
			one[i] = 99
		}
		if !slices.Equal(other, wordsOf(x)) || !slices.Equal(thing.Put(x), wordsOf(x)) {
			t.Errorf("R4: Put(%+v): two answers share their words", x)
		}
	}
	l := wordsOf(thing.Thing{Type: 5, Data: [4]uint64{1, 2, 3, 4}})
	x, _ := thing.Get(l...)
	l[3] = 9
	if x.Data != [4]uint64{1, 2, 3, 4} {
		t.Errorf("R4: Get keeps what it was handed: %+v", x)
	}
}

func TestAnswersStay(t *testing.T) {
	for _, x := range append(largest(), least()...) {
		l := thing.Put(x)
		for range 3 {
			y, ok := thing.Get(l...)
			if y != x || !ok || !thing.Good(x) || !slices.Equal(thing.Put(x), l) {
				t.Errorf("R5: another answer for %+v", x)
			}
		}
	}
}
