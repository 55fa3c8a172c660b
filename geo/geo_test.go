package geo_test

import (
	"math"
	"testing"

	"reeve/api"
	"reeve/geo"
)

// far: numbers that count nothing and are none's, at which sums, and products with 2, 8 and 1208, wrap round to small ones.
var far = []int{
	-1208, 121, 1208, 1 << 16, 1<<16 + 1, 1 << 31, 1<<32 + 1, -1 << 31, -1 << 32, 1 << 40, -1 << 40,
	1 << 60, 1 << 61, 1<<61 + 1, 1<<61 + 8, 1 << 62, 1<<62 + 1, 1<<62 + 8, -1 << 60, -1 << 61, 1 - 1<<61, -1 << 62,
	math.MaxInt - 8, math.MaxInt - 7, math.MaxInt - 2, math.MaxInt - 1, math.MaxInt,
	math.MinInt, math.MinInt + 1, math.MinInt + 2, math.MinInt + 8, math.MinInt + 1208,
}

// near gives all numbers from one on to another one, and the far ones.
func near(from, to int) []int {
	l := append([]int{}, far...)
	for x := from; x <= to; x++ {
		l = append(l, x)
	}
	return l
}

// may is Good, by lists of what may be: so no sum of great numbers is in it.
func may(g geo.Geo) bool {
	for threads := 1; threads <= api.MaxThreads; threads++ {
		if g.Threads != threads {
			continue
		}
		for slots := 8 * threads; slots <= api.MaxSlots; slots += 8 {
			if g.Slots == slots {
				return threads+2 <= g.Things && g.Things <= api.MaxThings
			}
		}
	}
	return false
}

// all gives each Geo that may be.
func all() []geo.Geo {
	var l []geo.Geo
	for threads := 1; threads <= api.MaxThreads; threads++ {
		for slots := 8 * threads; slots <= api.MaxSlots; slots += 8 {
			for things := threads + 2; things <= api.MaxThings; things++ {
				l = append(l, geo.Geo{Threads: threads, Slots: slots, Things: things})
			}
		}
	}
	return l
}

// some gives the least, the greatest, and others between.
func some() []geo.Geo {
	return []geo.Geo{
		{Threads: 1, Slots: 8, Things: 3}, {Threads: 1, Slots: 96, Things: 48}, {Threads: 1, Slots: 8, Things: 48}, {Threads: 1, Slots: 96, Things: 3},
		{Threads: 2, Slots: 16, Things: 4}, {Threads: 2, Slots: 32, Things: 16}, {Threads: 3, Slots: 24, Things: 5}, {Threads: 3, Slots: 40, Things: 17},
		{Threads: 4, Slots: 32, Things: 6}, {Threads: 4, Slots: 96, Things: 6}, {Threads: 4, Slots: 32, Things: 48}, {Threads: 4, Slots: 96, Things: 48},
	}
}

// places is what a chapter tells of a Geo, row by row and word by word.
type places struct {
	rows, lock, last    int
	descs, slots, boxes []int
}

// walk lays everything down in its order.
func walk(g geo.Geo) places {
	at := 8
	p := places{lock: at}
	at += 8
	for range g.Threads {
		p.descs = append(p.descs, at)
		at += 151 * 8
	}
	for range g.Slots {
		p.slots = append(p.slots, at)
		at += 2
	}
	for range g.Things {
		p.boxes = append(p.boxes, at)
		at += 8
	}
	p.last = at
	p.rows = (at + 8) / 8
	return p
}

func checkGood(t *testing.T, g geo.Geo, want bool) {
	t.Helper()
	if got := geo.Good(g); got != want {
		t.Errorf("P5.1: Good(%d): %v", g, got)
	}
}

// checkNothing asks all calls but Good for a number of a Geo that may not be.
func checkNothing(t *testing.T, g geo.Geo, i int) {
	t.Helper()
	from, n := geo.Desc(g, i)
	got := [...]int{geo.Rows(g), geo.Lock(g), from, n, geo.Slot(g, i), geo.Thing(g, i), geo.Copy(g), geo.Root(g, i)}
	if got != [8]int{} {
		t.Errorf("P5.1: of %d, which is not Good, and %d: %d, want all 0", g, i, got)
	}
}

func checkThread(t *testing.T, g geo.Geo, thread, from, n, root int) {
	t.Helper()
	if f, k := geo.Desc(g, thread); f != from || k != n {
		t.Errorf("P5.1: Desc(%d, %d): %d, %d, want %d, %d", g, thread, f, k, from, n)
	}
	if r := geo.Root(g, thread); r != root {
		t.Errorf("P5.1: Root(%d, %d): %d, want %d", g, thread, r, root)
	}
}

func checkSlot(t *testing.T, g geo.Geo, i, want int) {
	t.Helper()
	if at := geo.Slot(g, i); at != want {
		t.Errorf("P5.1: Slot(%d, %d): %d, want %d", g, i, at, want)
	}
}

func checkThing(t *testing.T, g geo.Geo, i, want int) {
	t.Helper()
	if at := geo.Thing(g, i); at != want {
		t.Errorf("P5.1: Thing(%d, %d): %d, want %d", g, i, at, want)
	}
}

func checkWhole(t *testing.T, g geo.Geo, rows, last int) {
	t.Helper()
	if r, lock, c := geo.Rows(g), geo.Lock(g), geo.Copy(g); r != rows || lock != 8 || c != last {
		t.Errorf("P5.1: Rows, Lock, Copy of %d: %d, %d, %d, want %d, 8, %d", g, r, lock, c, rows, last)
	}
}

// The edges in numbers, each against the one beside it: all else of these Geos may be.
func TestGoodAtTheEdges(t *testing.T) {
	for _, c := range []struct {
		threads, slots, things int
		want                   bool
	}{
		{-1, 96, 48, false}, {0, 96, 48, false}, {1, 96, 48, true}, {2, 96, 48, true}, {3, 96, 48, true}, {4, 96, 48, true}, {5, 96, 48, false},
		{0, 8, 3, false}, {0, 0, 2, false}, {0, 8, 2, false}, {-1, -8, 1, false}, {5, 40, 7, false},
		{1, 8, 3, true}, {1, 0, 3, false}, {1, -8, 3, false}, {2, 16, 4, true}, {2, 8, 4, false}, {3, 24, 5, true}, {3, 16, 5, false}, {4, 32, 6, true}, {4, 24, 6, false},
		{1, 7, 3, false}, {1, 9, 3, false}, {1, 10, 3, false}, {1, 12, 3, false}, {1, 15, 3, false}, {1, 16, 3, true}, {4, 36, 6, false}, {2, 33, 16, false},
		{1, 88, 3, true}, {1, 92, 3, false}, {1, 95, 3, false}, {1, 97, 3, false}, {1, 100, 3, false}, {1, 104, 3, false}, {4, 104, 48, false},
		{1, 8, 2, false}, {1, 8, 1, false}, {1, 8, 0, false}, {1, 8, -1, false}, {2, 16, 3, false}, {3, 24, 4, false}, {4, 32, 5, false},
		{1, 8, 4, true}, {1, 8, 47, true}, {1, 8, 48, true}, {1, 8, 49, false}, {4, 96, 49, false}, {2, 32, 16, true}, {0, 0, 0, false},
	} {
		checkGood(t, geo.Geo{Threads: c.threads, Slots: c.slots, Things: c.things}, c.want)
	}
}

// All of them near what may be, each with numbers that are far off, too.
func TestGood(t *testing.T) {
	count := 0
	for _, threads := range near(-3, 7) {
		for _, slots := range near(-10, 120) {
			for _, things := range near(-3, 60) {
				g := geo.Geo{Threads: threads, Slots: slots, Things: things}
				checkGood(t, g, may(g))
				if geo.Good(g) {
					count++
				}
			}
		}
	}
	if want := 12*46 + 11*45 + 10*44 + 9*43; count != want || len(all()) != want {
		t.Errorf("P5.1: %d of them are Good (%d told), want %d", count, len(all()), want)
	}
}

// Just one number is off, by one or by far: the others alone would do.
func TestNothingOfWhatIsNotGood(t *testing.T) {
	for _, threads := range near(-2, 6) {
		for _, slots := range []int{math.MinInt, -8, 0, 7, 8, 12, 24, 32, 96, 97, 104, 1 << 61, 1 << 62, math.MaxInt - 7, math.MaxInt} {
			for _, things := range []int{math.MinInt, math.MinInt + 1, -3, 0, 2, 3, 5, 6, 48, 49, 1 << 61, 1 << 62, math.MaxInt - 1, math.MaxInt} {
				g := geo.Geo{Threads: threads, Slots: slots, Things: things}
				if may(g) {
					continue
				}
				for _, i := range []int{math.MinInt, -1, 0, 1, 2, 3, 7, 1 << 40, 1 << 61, math.MaxInt} {
					checkNothing(t, g, i)
				}
			}
		}
	}
}

func TestNothingOfANumberThatIsNone(t *testing.T) {
	for _, g := range some() {
		for _, i := range append([]int{-1, -2, -3, -4, -7, -8}, far...) {
			checkThread(t, g, i, 0, 0, 0)
			checkSlot(t, g, i, 0)
			checkThing(t, g, i, 0)
		}
		for k := range 200 {
			checkThread(t, g, g.Threads+k, 0, 0, 0)
			checkSlot(t, g, g.Slots+k, 0)
			checkThing(t, g, g.Things+k, 0)
		}
	}
}

// First ones, last ones and one more, in numbers.
func TestPlacesInNumbers(t *testing.T) {
	for _, c := range []struct {
		g                                                  geo.Geo
		desc, slot, lastSlot, thing, lastThing, copy, rows int
	}{
		{geo.Geo{Threads: 1, Slots: 8, Things: 3}, 16, 1224, 1238, 1240, 1256, 1264, 159},
		{geo.Geo{Threads: 2, Slots: 32, Things: 16}, 1224, 2432, 2494, 2496, 2616, 2624, 329},
		{geo.Geo{Threads: 3, Slots: 24, Things: 5}, 2432, 3640, 3686, 3688, 3720, 3728, 467},
		{geo.Geo{Threads: 4, Slots: 32, Things: 6}, 3640, 4848, 4910, 4912, 4952, 4960, 621},
		{geo.Geo{Threads: 4, Slots: 96, Things: 48}, 3640, 4848, 5038, 5040, 5416, 5424, 679},
	} {
		g := c.g
		checkWhole(t, g, c.rows, c.copy)
		checkThread(t, g, 0, 16, 1208, 0)
		checkThread(t, g, g.Threads-1, c.desc, 1208, 8*(g.Threads-1))
		checkThread(t, g, g.Threads, 0, 0, 0)
		checkThread(t, g, -1, 0, 0, 0)
		checkSlot(t, g, 0, c.slot)
		checkSlot(t, g, 1, c.slot+2)
		checkSlot(t, g, g.Slots-1, c.lastSlot)
		checkSlot(t, g, g.Slots, 0)
		checkSlot(t, g, -1, 0)
		checkThing(t, g, 0, c.thing)
		checkThing(t, g, 1, c.thing+8)
		checkThing(t, g, g.Things-1, c.lastThing)
		checkThing(t, g, g.Things, 0)
		checkThing(t, g, -1, 0)
	}
}

// Each place of each Geo that may be, as the chapter lays them.
func TestInOrder(t *testing.T) {
	for _, g := range all() {
		p := walk(g)
		checkWhole(t, g, p.rows, p.last)
		for thread, from := range p.descs {
			checkThread(t, g, thread, from, 8+2*api.MaxWrites, 8*thread)
		}
		for i, at := range p.slots {
			checkSlot(t, g, i, at)
		}
		for i, at := range p.boxes {
			checkThing(t, g, i, at)
		}
		checkThread(t, g, g.Threads, 0, 0, 0)
		checkSlot(t, g, g.Slots, 0)
		checkThing(t, g, g.Things, 0)
	}
}

// owned is a memory's words, each with how many places it is in.
type owned []int

func (l owned) take(t *testing.T, g geo.Geo, from, n int) {
	t.Helper()
	for at := from; at < from+n; at++ {
		if at < 0 || at >= len(l) {
			t.Errorf("P5.1: of %d: word %d is not of its %d", g, at, len(l))
			return
		}
		l[at]++
	}
}

// By the calls alone: no word is of two places or of none, none is beyond the last row, and each part begins with a row.
func TestNoTwoShareAWord(t *testing.T) {
	for _, g := range all() {
		l := make(owned, geo.Rows(g)*api.RowWords)
		l.take(t, g, 0, api.RowWords)
		l.take(t, g, geo.Lock(g), api.RowWords)
		for thread := range g.Threads {
			from, n := geo.Desc(g, thread)
			l.take(t, g, from, n)
			if from%api.RowWords != 0 || n != 151*api.RowWords {
				t.Errorf("P5.1: Desc(%d, %d): %d, %d: not 151 whole rows", g, thread, from, n)
			}
		}
		for i := range g.Slots {
			l.take(t, g, geo.Slot(g, i), 2)
		}
		for i := range g.Things {
			l.take(t, g, geo.Thing(g, i), 8)
		}
		l.take(t, g, geo.Copy(g), api.RowWords)
		for at, n := range l {
			if n != 1 {
				t.Fatalf("P5.1: of %d: word %d is in %d places", g, at, n)
			}
		}
		if geo.Slot(g, 0)%api.RowWords != 0 || geo.Thing(g, 0)%api.RowWords != 0 || geo.Copy(g) != len(l)-api.RowWords {
			t.Errorf("P5.1: of %d: Slot(0) %d, Thing(0) %d, Copy %d of %d words", g, geo.Slot(g, 0), geo.Thing(g, 0), geo.Copy(g), len(l))
		}
		if geo.Rows(g) > api.MaxRows {
			t.Errorf("P5.1: Rows(%d): %d, more than a memory may have", g, geo.Rows(g))
		}
	}
}

// A root is told as a slot's number: each thread has its own slots for it, and all of them are there.
func TestRoots(t *testing.T) {
	for _, g := range all() {
		taken := make([]int, g.Slots)
		for thread := range g.Threads {
			for k := range 1 << api.RootBits {
				if slot := geo.Root(g, thread) + k; slot < 0 || slot >= g.Slots || taken[slot] != 0 || geo.Slot(g, slot) == 0 {
					t.Fatalf("P5.1: Root(%d, %d): its slot %d is none, or taken", g, thread, slot)
				} else {
					taken[slot]++
				}
			}
		}
	}
}

func TestPlain(t *testing.T) {
	g := geo.Plain()
	if g != (geo.Geo{Threads: 2, Slots: 32, Things: 16}) || !geo.Good(g) {
		t.Fatalf("P5.1: Plain: %d, Good %v", g, geo.Good(g))
	}
	if geo.Lock(g) != 8 || geo.Slot(g, 0) != 2432 {
		t.Errorf("P5.1: Lock, Slot of Plain: %d, %d", geo.Lock(g), geo.Slot(g, 0))
	}
	checkWhole(t, g, 329, 2624)
	checkThread(t, g, 0, 16, 1208, 0)
	checkThread(t, g, 1, 1224, 1208, 8)
	checkThing(t, g, 0, 2496)
}

// R5: what was asked before, of whatever Geo, is not to be told from an answer.
func TestAskedAgain(t *testing.T) {
	for range 2 {
		for _, g := range some() {
			checkNothing(t, geo.Geo{Threads: g.Threads, Slots: g.Slots + 1, Things: g.Things}, 0)
			p := walk(g)
			checkWhole(t, g, p.rows, p.last)
			checkThread(t, g, 0, p.descs[0], 1208, 0)
			checkSlot(t, g, g.Slots-1, p.slots[g.Slots-1])
			checkThing(t, g, g.Things-1, p.boxes[g.Things-1])
		}
	}
}
