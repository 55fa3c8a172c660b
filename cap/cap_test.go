package cap_test

import (
	"math"
	"slices"
	"strings"
	"testing"

	"reeve/api"
	"reeve/cap"
)

// texts is what chapter 7 tells of each rights, in the place of its number.
var texts = []string{"-", "r", "w", "rw", "g", "rg", "wg", "rwg"}

// far gives x, and numbers whose low bits are those of x, but that are another.
func far(x int) []int {
	return []int{x, x + 1<<8, x + 1<<16, x + 1<<31, x + 1<<32, x + 1<<48, x + math.MinInt, x - 1<<8, x - 1<<16, x - 1<<32}
}

func anyTypes() []int {
	return append([]int{math.MinInt, -3, -1, 0, 1, 2, 3, 4, 5, 6, 7, 255, math.MaxInt}, far(3)[1:]...)
}

func anyThings() []int {
	return append([]int{math.MinInt, -48, -1, 0, 1, 46, 47, 48, 49, 95, 96, 1<<16 - 1, 1 << 16, math.MaxInt}, far(2)[1:]...)
}

func anyRights() []int {
	return append([]int{math.MinInt, -8, -7, -1, 0, 1, 2, 3, 4, 5, 6, 7, 8, 9, 15, 16, 255, math.MaxInt}, far(7)[1:]...)
}

func anyBadges() []int {
	return append([]int{math.MinInt, -65535, -1, 0, 1, 2, 255, 256, 65534, 65535, 65536, 65537, math.MaxInt}, far(5)[1:]...)
}

// anyCaps calls check with each capability of those fields, Good or not.
func anyCaps(check func(c cap.Cap)) {
	for _, kind := range anyTypes() {
		for _, thing := range anyThings() {
			for _, rights := range anyRights() {
				for _, badge := range anyBadges() {
					check(cap.Cap{Type: kind, Thing: thing, Rights: rights, Badge: badge})
				}
			}
		}
	}
}

// goodCaps gives none, and all kinds, things and rights that may be, with some badges.
func goodCaps() []cap.Cap {
	l := []cap.Cap{{}}
	for kind := 1; kind <= 5; kind++ {
		badges := []int{0}
		if kind == 3 || kind == 4 {
			badges = []int{0, 1, 2, 255, 256, 32768, 65534, 65535}
		}
		for thing := range 48 {
			for rights := range 8 {
				for _, badge := range badges {
					l = append(l, cap.Cap{Type: kind, Thing: thing, Rights: rights, Badge: badge})
				}
			}
		}
	}
	return l
}

// badCaps gives some that are not Good: each but for one field that is.
func badCaps() []cap.Cap {
	l := []cap.Cap{{Thing: 1}, {Thing: -1}, {Thing: 47}, {Rights: 1}, {Rights: 7}, {Rights: -1}, {Rights: 8}, {Badge: 1}, {Badge: -1}, {Badge: 65535}, {Thing: 3, Rights: 7}, {Thing: 3, Rights: 7, Badge: 2}}
	for kind := 1; kind <= 5; kind++ {
		for _, thing := range []int{-1, 48, 49, 1 << 16, 1 << 32, math.MinInt, math.MaxInt} {
			l = append(l, cap.Cap{Type: kind, Thing: thing}, cap.Cap{Type: kind, Thing: thing, Rights: 7})
		}
		for _, rights := range []int{-1, 8, 15, 256, 1 << 32, 1<<32 + 7, math.MinInt, math.MaxInt} {
			l = append(l, cap.Cap{Type: kind, Rights: rights}, cap.Cap{Type: kind, Thing: 47, Rights: rights})
		}
		for _, badge := range []int{-1, 65536, 65537, 1 << 32, 1<<32 + 1, math.MinInt, math.MaxInt} {
			l = append(l, cap.Cap{Type: kind, Badge: badge}, cap.Cap{Type: kind, Thing: 47, Rights: 7, Badge: badge})
		}
	}
	for _, kind := range []int{-1, -3, 6, 7, 255, 256, 257, 259, 1<<32 + 3, 1<<32 + 4, math.MinInt, math.MinInt + 3, math.MaxInt} {
		l = append(l, cap.Cap{Type: kind}, cap.Cap{Type: kind, Thing: 1, Rights: 7}, cap.Cap{Type: kind, Thing: 1, Rights: 7, Badge: 2})
	}
	for _, kind := range []int{1, 2, 5} {
		l = append(l, cap.Cap{Type: kind, Badge: 1}, cap.Cap{Type: kind, Thing: 3, Rights: 7, Badge: 2}, cap.Cap{Type: kind, Badge: 65535})
	}
	return l
}

// mayBe is the chapter's Good, told by lists of what may stand in each field.
func mayBe(c cap.Cap) bool {
	if c.Type == 0 {
		return c.Thing == 0 && c.Rights == 0 && c.Badge == 0
	}
	if !slices.Contains([]int{1, 2, 3, 4, 5}, c.Type) || !slices.Contains([]int{0, 1, 2, 3, 4, 5, 6, 7}, c.Rights) {
		return false
	}
	if c.Thing < 0 || c.Thing > 47 || c.Badge < 0 || c.Badge > 65535 {
		return false
	}
	return c.Badge == 0 || slices.Contains([]int{3, 4}, c.Type)
}

// wordOf is the chapter's word, as a sum, of one that may be.
func wordOf(c cap.Cap) uint64 {
	return uint64(c.Type) + 256*uint64(c.Rights) + 65536*uint64(c.Badge) + 4294967296*uint64(c.Thing)
}

// read is what a word's parts tell, and whether that may be and there is no more in it.
func read(w uint64) (cap.Cap, bool) {
	c := cap.Cap{Type: int(w % 256), Rights: int(w / 256 % 256), Badge: int(w / 65536 % 65536), Thing: int(w / 4294967296 % 65536)}
	if w >= 1<<48 || !mayBe(c) {
		return cap.Cap{}, false
	}
	return c, true
}

func TestTheGivenNumbers(t *testing.T) {
	if api.Room != 1 || api.Node != 2 || api.Mail != 3 || api.Bell != 4 || api.Leaf != 5 || api.MaxThings != 48 || api.All != 7 || api.MaxBadge != 65535 {
		t.Errorf("the tests' numbers are not api's")
	}
}

func TestGood(t *testing.T) {
	for _, c := range goodCaps() {
		if !cap.Good(c) {
			t.Errorf("P8.1: Good(%v): false", c)
		}
	}
	for _, c := range badCaps() {
		if cap.Good(c) {
			t.Errorf("P8.1: Good(%v): true", c)
		}
	}
	anyCaps(func(c cap.Cap) {
		if got := cap.Good(c); got != mayBe(c) {
			t.Errorf("P8.1: Good(%v): %v", c, got)
		}
	})
}

func TestGoodInNumbers(t *testing.T) {
	for _, c := range []struct {
		c    cap.Cap
		want bool
	}{
		{cap.Cap{}, true}, {cap.Cap{Thing: 1}, false}, {cap.Cap{Rights: 1}, false}, {cap.Cap{Badge: 1}, false},
		{cap.Cap{Type: -1}, false}, {cap.Cap{Type: 1}, true}, {cap.Cap{Type: 2}, true}, {cap.Cap{Type: 3}, true}, {cap.Cap{Type: 4}, true}, {cap.Cap{Type: 5}, true}, {cap.Cap{Type: 6}, false},
		{cap.Cap{Type: 2, Thing: -1}, false}, {cap.Cap{Type: 2, Thing: 47}, true}, {cap.Cap{Type: 2, Thing: 48}, false},
		{cap.Cap{Type: 2, Rights: -1}, false}, {cap.Cap{Type: 2, Rights: 7}, true}, {cap.Cap{Type: 2, Rights: 8}, false},
		{cap.Cap{Type: 1, Badge: 1}, false}, {cap.Cap{Type: 2, Badge: 1}, false}, {cap.Cap{Type: 3, Badge: 1}, true}, {cap.Cap{Type: 4, Badge: 1}, true}, {cap.Cap{Type: 5, Badge: 1}, false},
		{cap.Cap{Type: 1, Badge: 65535}, false}, {cap.Cap{Type: 2, Badge: 65535}, false}, {cap.Cap{Type: 3, Badge: 65535}, true}, {cap.Cap{Type: 4, Badge: 65535}, true}, {cap.Cap{Type: 5, Badge: 65535}, false},
		{cap.Cap{Type: 3, Badge: 65536}, false}, {cap.Cap{Type: 4, Badge: 65536}, false}, {cap.Cap{Type: 3, Badge: -1}, false}, {cap.Cap{Type: 4, Badge: -1}, false},
		{cap.Cap{Type: 3, Thing: 47, Rights: 7, Badge: 65535}, true}, {cap.Cap{Type: 1 << 40}, false},
	} {
		if got := cap.Good(c.c); got != c.want {
			t.Errorf("P8.1: Good(%v): %v", c.c, got)
		}
	}
}

func TestNone(t *testing.T) {
	if !cap.None(cap.Cap{}) {
		t.Errorf("P8.1: None of no capability: false")
	}
	for _, x := range []int{1, -1, 256, 1 << 16, 1 << 32, math.MinInt, math.MaxInt} {
		for _, c := range []cap.Cap{{Type: x}, {Thing: x}, {Rights: x}, {Badge: x}, {Type: x, Thing: -x}, {x, x, x, x}} {
			if cap.None(c) {
				t.Errorf("P8.1: None(%v): true", c)
			}
		}
	}
	anyCaps(func(c cap.Cap) {
		if want := c.Type == 0 && c.Thing == 0 && c.Rights == 0 && c.Badge == 0; cap.None(c) != want {
			t.Errorf("P8.1: None(%v): %v", c, !want)
		}
	})
}

func TestWordAndGetThereAndBack(t *testing.T) {
	for _, c := range goodCaps() {
		w, ok := cap.Word(c)
		if w != wordOf(c) || !ok {
			t.Errorf("P8.1: Word(%v): %#x, %v, want %#x", c, w, ok, wordOf(c))
		}
		if back, ok := cap.Get(w); back != c || !ok {
			t.Errorf("P8.1: Get(%#x): %v, %v, want %v", w, back, ok, c)
		}
	}
	for badge := range 65536 {
		c := cap.Cap{Type: 3 + badge%2, Thing: badge % 48, Rights: badge % 8, Badge: badge}
		w, ok := cap.Word(c)
		if back, fine := cap.Get(w); w != wordOf(c) || !ok || back != c || !fine {
			t.Errorf("P8.1: Word(%v): %#x, %v; Get of it: %v, %v", c, w, ok, back, fine)
		}
	}
}

func TestWordOfWhatIsNotGood(t *testing.T) {
	for _, c := range badCaps() {
		if w, ok := cap.Word(c); w != 0 || ok {
			t.Errorf("P8.1: Word(%v): %#x, %v", c, w, ok)
		}
	}
	anyCaps(func(c cap.Cap) {
		w, ok := cap.Word(c)
		if ok != mayBe(c) || !ok && w != 0 || ok && w != wordOf(c) {
			t.Errorf("P8.1: Word(%v): %#x, %v", c, w, ok)
		}
	})
}

func TestWordInNumbers(t *testing.T) {
	for _, c := range []struct {
		c cap.Cap
		w uint64
	}{
		{cap.Cap{}, 0}, {cap.Cap{Type: 1}, 1}, {cap.Cap{Type: 5}, 5}, {cap.Cap{Type: 1, Rights: 1}, 0x101}, {cap.Cap{Type: 5, Rights: 7}, 0x705},
		{cap.Cap{Type: 3, Badge: 1}, 0x10003}, {cap.Cap{Type: 4, Badge: 65535}, 0xffff0004}, {cap.Cap{Type: 2, Thing: 1}, 0x100000002}, {cap.Cap{Type: 2, Thing: 47}, 0x2f00000002},
		{cap.Cap{Type: 3, Thing: 1, Rights: 7, Badge: 2}, 0x100020703}, {cap.Cap{Type: 4, Thing: 47, Rights: 7, Badge: 65535}, 0x2fffff0704}, {cap.Cap{Type: 3, Thing: 16, Rights: 4, Badge: 0x1234}, 0x1012340403},
	} {
		if w, ok := cap.Word(c.c); w != c.w || !ok {
			t.Errorf("P8.1: Word(%v): %#x, %v, want %#x", c.c, w, ok, c.w)
		}
		if got, ok := cap.Get(c.w); got != c.c || !ok {
			t.Errorf("P8.1: Get(%#x): %v, %v, want %v", c.w, got, ok, c.c)
		}
	}
}

// checkGet holds Get against what the word's parts tell.
func checkGet(t *testing.T, w uint64) {
	t.Helper()
	want, fine := read(w)
	got, ok := cap.Get(w)
	if got != want || ok != fine {
		t.Errorf("P8.1: Get(%#x): %v, %v, want %v, %v", w, got, ok, want, fine)
	}
	if !ok {
		return
	}
	if back, ok := cap.Word(got); back != w || !ok {
		t.Errorf("P8.1: Word(%v): %#x, %v, want %#x", got, back, ok, w)
	}
}

func TestGetOfAnyWord(t *testing.T) {
	for low := range uint64(1 << 16) {
		for _, high := range []uint64{0, 1 << 16, 0xffff << 16, 1 << 32, 47 << 32, 48 << 32, 47<<32 | 9<<16, 48<<32 | 9<<16, 0xffff << 32, 1 << 48, 1 << 63} {
			checkGet(t, high|low)
		}
	}
	for part := range uint64(1 << 16) {
		for kind := range uint64(7) {
			checkGet(t, part<<16|kind)
			checkGet(t, part<<32|kind)
			checkGet(t, part<<48|kind)
		}
	}
	w := uint64(88172645463325252)
	for range 100000 {
		w ^= w << 13
		w ^= w >> 7
		w ^= w << 17
		checkGet(t, w)
		checkGet(t, w&0x3fffff0707)
	}
	checkGet(t, math.MaxUint64)
}

func TestGetOfABitMore(t *testing.T) {
	for i, c := range goodCaps() {
		w := wordOf(c)
		for bit := range 64 {
			checkGet(t, w^1<<bit)
		}
		for bit := 48; bit < 64; bit++ {
			if got, ok := cap.Get(w | 1<<bit); ok || got != (cap.Cap{}) {
				t.Errorf("P8.1: Get(%#x), number %d: %v, %v", w|1<<bit, i, got, ok)
			}
		}
	}
}

func TestGetOfWhatWordNeverWrites(t *testing.T) {
	for _, w := range []uint64{
		6, 7, 8, 0xff, 0x80 | 3, 0x100, 0x700, 0x801, 0x803, 0x8003, 0xff03, 0x10000, 0xffff0000, 0x10001, 0x10002, 0x10005, 0x10006, 0x80000001, 0x80000005,
		1 << 32, 47 << 32, 48<<32 | 1, 48<<32 | 3, 64<<32 | 3, 0xffff<<32 | 3, 1<<47 | 3, 1 << 48, 1<<48 | 1, 1<<63 | 3, 1 << 63, math.MaxUint64,
	} {
		if c, ok := cap.Get(w); ok || c != (cap.Cap{}) {
			t.Errorf("P8.1: Get(%#x): %v, %v", w, c, ok)
		}
	}
}

func TestCut(t *testing.T) {
	for _, c := range goodCaps() {
		for _, rights := range anyRights() {
			want := c
			want.Rights = 0
			for _, bit := range []int{1, 2, 4} {
				if 0 <= rights && rights <= 7 && c.Rights/bit%2 == 1 && rights/bit%2 == 1 {
					want.Rights += bit
				}
			}
			if got := cap.Cut(c, rights); got != want {
				t.Errorf("P8.1: Cut(%v, %d): %v, want %v", c, rights, got, want)
			}
		}
	}
	for _, c := range badCaps() {
		for _, rights := range anyRights() {
			if got := cap.Cut(c, rights); got != (cap.Cap{}) {
				t.Errorf("P8.1: Cut(%v, %d): %v", c, rights, got)
			}
		}
	}
}

func TestCutInNumbers(t *testing.T) {
	for _, c := range []struct {
		c      cap.Cap
		rights int
		want   cap.Cap
	}{
		{cap.Cap{Type: 3, Thing: 1, Rights: 7, Badge: 2}, 7, cap.Cap{Type: 3, Thing: 1, Rights: 7, Badge: 2}},
		{cap.Cap{Type: 3, Thing: 1, Rights: 7, Badge: 2}, 5, cap.Cap{Type: 3, Thing: 1, Rights: 5, Badge: 2}},
		{cap.Cap{Type: 3, Thing: 1, Rights: 5, Badge: 2}, 6, cap.Cap{Type: 3, Thing: 1, Rights: 4, Badge: 2}},
		{cap.Cap{Type: 3, Thing: 1, Rights: 5}, 2, cap.Cap{Type: 3, Thing: 1}},
		{cap.Cap{Type: 1, Thing: 47, Rights: 3}, 7, cap.Cap{Type: 1, Thing: 47, Rights: 3}},
		{cap.Cap{Type: 1, Rights: 7}, 0, cap.Cap{Type: 1}},
		{cap.Cap{Type: 5, Rights: 7}, 8, cap.Cap{Type: 5}},
		{cap.Cap{Type: 5, Rights: 7}, 15, cap.Cap{Type: 5}},
		{cap.Cap{Type: 5, Rights: 7}, -1, cap.Cap{Type: 5}},
		{cap.Cap{Type: 5, Rights: 7}, 1<<32 + 7, cap.Cap{Type: 5}},
		{cap.Cap{}, 7, cap.Cap{}}, {cap.Cap{}, -1, cap.Cap{}},
		{cap.Cap{Type: 5, Rights: 8}, 7, cap.Cap{}}, {cap.Cap{Type: 6, Rights: 7}, 7, cap.Cap{}}, {cap.Cap{Type: 1, Rights: 7, Badge: 1}, 7, cap.Cap{}}, {cap.Cap{Type: 1, Thing: 48, Rights: 7}, 7, cap.Cap{}}, {cap.Cap{Rights: 7}, 7, cap.Cap{}},
	} {
		if got := cap.Cut(c.c, c.rights); got != c.want {
			t.Errorf("P8.1: Cut(%v, %d): %v, want %v", c.c, c.rights, got, c.want)
		}
	}
}

// stamped is the chapter's Stamp, each error asked for by itself, the one that counts last.
func stamped(c cap.Cap, badge int) (cap.Cap, api.Errno) {
	want, e := cap.Cap{Type: c.Type, Thing: c.Thing, Rights: c.Rights, Badge: badge}, api.OK
	if c.Badge != 0 {
		e = api.ETAKEN
	}
	if !slices.Contains([]int{3, 4}, c.Type) {
		e = api.ETYPE
	}
	if badge < 1 || badge > 65535 || !mayBe(c) {
		e = api.EARG
	}
	if e != api.OK {
		return cap.Cap{}, e
	}
	return want, e
}

func TestStamp(t *testing.T) {
	for _, c := range append(goodCaps(), badCaps()...) {
		for _, badge := range anyBadges() {
			want, wantErr := stamped(c, badge)
			if got, e := cap.Stamp(c, badge); got != want || e != wantErr {
				t.Errorf("P8.1: Stamp(%v, %d): %v, %d, want %v, %d", c, badge, got, e, want, wantErr)
			}
		}
	}
	for badge := -2; badge <= 65537; badge++ {
		want, wantErr := stamped(cap.Cap{Type: 4, Thing: 2, Rights: 3}, badge)
		if got, e := cap.Stamp(cap.Cap{Type: 4, Thing: 2, Rights: 3}, badge); got != want || e != wantErr {
			t.Errorf("P8.1: Stamp of a bell with %d: %v, %d, want %v, %d", badge, got, e, want, wantErr)
		}
	}
}

func TestStampInNumbers(t *testing.T) {
	box := cap.Cap{Type: 3, Thing: 1, Rights: 7}
	for _, c := range []struct {
		c     cap.Cap
		badge int
		want  cap.Cap
		e     api.Errno
	}{
		{box, 1, cap.Cap{Type: 3, Thing: 1, Rights: 7, Badge: 1}, api.OK},
		{box, 65535, cap.Cap{Type: 3, Thing: 1, Rights: 7, Badge: 65535}, api.OK},
		{cap.Cap{Type: 4, Thing: 47}, 2, cap.Cap{Type: 4, Thing: 47, Badge: 2}, api.OK},
		{box, 0, cap.Cap{}, api.EARG}, {box, -1, cap.Cap{}, api.EARG}, {box, 65536, cap.Cap{}, api.EARG}, {box, 1<<32 + 1, cap.Cap{}, api.EARG}, {box, math.MinInt, cap.Cap{}, api.EARG}, {box, math.MaxInt, cap.Cap{}, api.EARG},
		{cap.Cap{Type: 1}, 1, cap.Cap{}, api.ETYPE}, {cap.Cap{Type: 2}, 65535, cap.Cap{}, api.ETYPE}, {cap.Cap{Type: 5, Rights: 7}, 1, cap.Cap{}, api.ETYPE}, {cap.Cap{}, 1, cap.Cap{}, api.ETYPE},
		{cap.Cap{Type: 3, Badge: 1}, 1, cap.Cap{}, api.ETAKEN}, {cap.Cap{Type: 4, Badge: 65535}, 1, cap.Cap{}, api.ETAKEN}, {cap.Cap{Type: 4, Badge: 1}, 65535, cap.Cap{}, api.ETAKEN},
		// several hold: the one that is named first
		{cap.Cap{Type: 1}, 0, cap.Cap{}, api.EARG}, {cap.Cap{Type: 5}, 65536, cap.Cap{}, api.EARG}, {cap.Cap{}, 0, cap.Cap{}, api.EARG}, {cap.Cap{}, -1, cap.Cap{}, api.EARG},
		{cap.Cap{Type: 3, Badge: 1}, 0, cap.Cap{}, api.EARG}, {cap.Cap{Type: 4, Badge: 1}, 65536, cap.Cap{}, api.EARG},
		{cap.Cap{Type: 1, Badge: 1}, 1, cap.Cap{}, api.EARG}, {cap.Cap{Type: 6}, 1, cap.Cap{}, api.EARG}, {cap.Cap{Type: 6}, 0, cap.Cap{}, api.EARG}, {cap.Cap{Type: 3, Thing: 48}, 1, cap.Cap{}, api.EARG},
		{cap.Cap{Type: 3, Rights: 8}, 1, cap.Cap{}, api.EARG}, {cap.Cap{Type: 3, Badge: 65536}, 1, cap.Cap{}, api.EARG}, {cap.Cap{Type: 3, Badge: -1}, 1, cap.Cap{}, api.EARG}, {cap.Cap{Rights: 1}, 1, cap.Cap{}, api.EARG},
	} {
		if got, e := cap.Stamp(c.c, c.badge); got != c.want || e != c.e {
			t.Errorf("P8.1: Stamp(%v, %d): %v, %d, want %v, %d", c.c, c.badge, got, e, c.want, c.e)
		}
	}
}

// lessFields gives few fields of each sort, so that all pairs of their capabilities can be held.
func lessFields() []cap.Cap {
	var l []cap.Cap
	for _, kind := range []int{0, 1, 3, 4, 9, -1, 1<<32 + 3} {
		for _, thing := range []int{0, 1, -1, 99, 1<<32 + 1} {
			for _, rights := range []int{0, 1, 3, 6, 7, 8, -1, 1<<32 + 1} {
				for _, badge := range []int{0, 1, 5, -1, 65536} {
					l = append(l, cap.Cap{Type: kind, Thing: thing, Rights: rights, Badge: badge})
				}
			}
		}
	}
	return l
}

// allowed is the chapter's Less, told right by right, and by what hinders.
func allowed(a, b cap.Cap) bool {
	if a == (cap.Cap{}) {
		return true
	}
	if a.Type != b.Type || a.Thing != b.Thing || b.Badge != 0 && b.Badge != a.Badge {
		return false
	}
	for _, has := range [][]int{{1, 3, 5, 7}, {2, 3, 6, 7}, {4, 5, 6, 7}} {
		if slices.Contains(has, a.Rights) && !slices.Contains(has, b.Rights) {
			return false
		}
	}
	return true
}

func TestLess(t *testing.T) {
	l := lessFields()
	for _, a := range l {
		for _, b := range l {
			if got := cap.Less(a, b); got != allowed(a, b) {
				t.Errorf("P8.1: Less(%v, %v): %v", a, b, got)
			}
		}
	}
}

func TestLessOfNone(t *testing.T) {
	anyCaps(func(c cap.Cap) {
		if !cap.Less(cap.Cap{}, c) {
			t.Errorf("P8.1: Less of none and %v: false", c)
		}
		if got := cap.Less(c, cap.Cap{}); got != allowed(c, cap.Cap{}) {
			t.Errorf("P8.1: Less of %v and none: %v", c, got)
		}
		if !cap.Less(c, c) {
			t.Errorf("P8.1: Less of %v and itself: false", c)
		}
	})
}

func TestLessInNumbers(t *testing.T) {
	box := cap.Cap{Type: 3, Thing: 1, Rights: 7}
	five := cap.Cap{Type: 3, Thing: 1, Rights: 7, Badge: 5}
	for _, c := range []struct {
		a, b        cap.Cap
		there, back bool
	}{
		{cap.Cap{}, cap.Cap{}, true, true}, {cap.Cap{}, box, true, false}, {cap.Cap{}, cap.Cap{Type: 3}, true, false}, {cap.Cap{}, cap.Cap{Type: -9, Thing: 99}, true, false},
		{box, box, true, true}, {cap.Cap{Type: 3, Thing: 1}, box, true, false}, {cap.Cap{Type: 3, Thing: 1, Rights: 5}, box, true, false},
		{cap.Cap{Type: 3, Thing: 1, Rights: 5}, cap.Cap{Type: 3, Thing: 1, Rights: 6}, false, false},
		{cap.Cap{Type: 4, Thing: 1, Rights: 7}, box, false, false}, {cap.Cap{Type: 3, Thing: 2, Rights: 7}, box, false, false}, {cap.Cap{Type: 3, Rights: 7}, box, false, false},
		{five, box, true, false}, {five, five, true, true}, {five, cap.Cap{Type: 3, Thing: 1, Rights: 7, Badge: 6}, false, false},
		{cap.Cap{Type: 3, Thing: 1, Rights: 3, Badge: 5}, five, true, false}, {cap.Cap{Type: 3, Thing: 1, Rights: 3}, five, false, false}, {cap.Cap{Type: 3, Thing: 1, Rights: 3, Badge: 5}, box, true, false},
		// by the fields alone, where they are not Good
		{cap.Cap{Type: 9, Thing: 99}, cap.Cap{Type: 9, Thing: 99, Rights: 7}, true, false}, {cap.Cap{Type: 9, Thing: 99, Rights: 8}, cap.Cap{Type: 9, Thing: 99}, true, true},
		{cap.Cap{Type: 3, Thing: 1, Rights: -1}, cap.Cap{Type: 3, Thing: 1}, true, true}, {cap.Cap{Type: 3, Thing: 1, Rights: 15}, box, true, false},
		{cap.Cap{Type: 3, Thing: 1, Badge: -1}, cap.Cap{Type: 3, Thing: 1}, true, false}, {cap.Cap{Type: 3, Thing: 1, Badge: -1}, cap.Cap{Type: 3, Thing: 1, Badge: -1}, true, true}, {cap.Cap{Type: 1, Badge: 1 << 20}, cap.Cap{Type: 1}, true, false},
		{cap.Cap{Rights: 1}, cap.Cap{}, false, true}, {cap.Cap{Rights: 8}, cap.Cap{}, true, true}, {cap.Cap{Badge: 1}, cap.Cap{}, true, true}, {cap.Cap{Badge: 1}, cap.Cap{Badge: 2}, false, false}, {cap.Cap{Thing: 1}, cap.Cap{}, false, true},
	} {
		if got := cap.Less(c.a, c.b); got != c.there {
			t.Errorf("P8.1: Less(%v, %v): %v", c.a, c.b, got)
		}
		if got := cap.Less(c.b, c.a); got != c.back {
			t.Errorf("P8.1: Less(%v, %v): %v", c.b, c.a, got)
		}
	}
}

// decimal tells a number of at most five digits in base ten, digit by digit.
func decimal(n int) string {
	digits := make([]byte, 0, 5)
	for _, value := range []int{10000, 1000, 100, 10, 1} {
		if n >= value || value == 1 {
			digits = append(digits, byte('0'+n/value%10))
		}
	}
	return string(digits)
}

func TestText(t *testing.T) {
	for _, c := range goodCaps() {
		want := strings.Join([]string{decimal(c.Type), decimal(c.Thing), texts[c.Rights], decimal(c.Badge)}, " ")
		if c.Type == 0 {
			want = "-"
		}
		if got := cap.Text(c); got != want {
			t.Errorf("P8.1: Text(%v): %q, want %q", c, got, want)
		}
	}
	for _, c := range badCaps() {
		if got := cap.Text(c); got != "" {
			t.Errorf("P8.1: Text(%v): %q, want nothing", c, got)
		}
	}
	anyCaps(func(c cap.Cap) {
		if got := cap.Text(c); (got == "") == mayBe(c) {
			t.Errorf("P8.1: Text(%v): %q", c, got)
		}
	})
}

func TestTextInNumbers(t *testing.T) {
	for _, c := range []struct {
		c    cap.Cap
		want string
	}{
		{cap.Cap{}, "-"}, {cap.Cap{Type: 3, Thing: 1, Rights: 7, Badge: 2}, "3 1 rwg 2"}, {cap.Cap{Type: 1}, "1 0 - 0"}, {cap.Cap{Type: 2, Thing: 10, Rights: 4}, "2 10 g 0"},
		{cap.Cap{Type: 4, Thing: 47, Rights: 2, Badge: 65535}, "4 47 w 65535"}, {cap.Cap{Type: 5, Thing: 9, Rights: 3}, "5 9 rw 0"}, {cap.Cap{Type: 3, Rights: 5, Badge: 10}, "3 0 rg 10"},
		{cap.Cap{Type: 6}, ""}, {cap.Cap{Type: -1}, ""}, {cap.Cap{Thing: 1}, ""}, {cap.Cap{Rights: 1}, ""}, {cap.Cap{Badge: 1}, ""}, {cap.Cap{Type: 1, Badge: 1}, ""}, {cap.Cap{Type: 1, Thing: 48}, ""}, {cap.Cap{Type: 1, Rights: 8}, ""}, {cap.Cap{Type: 3, Badge: 65536}, ""},
	} {
		if got := cap.Text(c.c); got != c.want {
			t.Errorf("P8.1: Text(%v): %q, want %q", c.c, got, c.want)
		}
	}
}
