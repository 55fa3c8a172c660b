package find_test

import (
	"fmt"
	"math"
	"slices"
	"testing"

	"reeve/api"
	"reeve/cap"
	"reeve/find"
	"reeve/path"
	"reeve/state"
	"reeve/thing"
)

// This file is a second telling of the chapter: each way that may be is tried, and Ways and Reach are what was found by that.

func way(l ...int) path.Path { return path.Path{L: l} }

// goodWays gives all ways that may be, in order of their steps: each ahead of what begins with it.
func goodWays() [][]int {
	var l [][]int
	for a := range 16 {
		l = append(l, []int{a})
		for b := range 16 {
			l = append(l, []int{a, b})
			for c := range 16 {
				l = append(l, []int{a, b, c})
			}
		}
	}
	return l
}

// badSteps gives numbers that are no step: near the edges, and far off, some with a step's bits in their low ones.
func badSteps() []int {
	return []int{-1, -2, -16, 16, 17, 18, 32, 256, 1<<16 + 1, 1 << 31, 1 << 32, 1<<32 + 2, 1<<60 + 4, math.MaxInt, -1 << 31, -1 << 32, 2 - 1<<32, math.MinInt, math.MinInt + 2}
}

// badWays gives ways that may not be: of no steps, of too many, and with one step that is none, in each place.
func badWays() [][]int {
	l := [][]int{nil, {}, {0, 0, 0, 0}, {2, 0, 0, 0}, {2, 10, 3, 1}, {15, 15, 15, 15}, {0, 0, 0, 16}, {7, 0, 0, -1}, make([]int, 5), make([]int, 16), make([]int, 255), make([]int, 256), make([]int, 257), make([]int, 1<<16+1), make([]int, 1<<20)}
	for _, step := range badSteps() {
		for n := 1; n <= 4; n++ {
			for at := range n {
				for _, other := range []int{0, 2, 15} {
					long := slices.Repeat([]int{other}, n)
					long[at] = step
					l = append(l, long)
				}
			}
		}
	}
	return l
}

// short is a list for a test's message: long ones are cut.
func short(l []int) []int { return l[:min(len(l), 9)] }

// far gives numbers that are no slot and no thread: some with small numbers in their low bits.
func far() []int {
	return []int{math.MinInt, math.MinInt + 1, -1 << 32, 1 - 1<<32, -1 << 31, -97, -9, -2, -1, 97, 1 << 8, 1<<8 + 1, 1<<16 + 1, 1 << 31, 1 << 32, 1<<32 + 1, 1<<32 + 8, 1 << 62, math.MaxInt - 1, math.MaxInt}
}

// places gives all numbers from two below the first of n to two above the last.
func places(n int) []int {
	var l []int
	for i := -2; i < n+2; i++ {
		l = append(l, i)
	}
	return l
}

// leadTold goes a way that may be, in a state that may be: -1 where it leads to no slot.
func leadTold(s state.State, thread int, l []int) int {
	node, slot := s.Things[2+thread], -1
	for i, step := range l {
		if i > 0 {
			c := s.Slots[slot].Cap
			if c.Type != 2 || c.Rights%2 == 0 {
				return -1
			}
			node = s.Things[c.Thing]
		}
		if step >= [5]int{1: 2, 2: 4, 3: 8, 4: 16}[node.Bits] {
			return -1
		}
		slot = node.Base + step
	}
	return slot
}

// told is what the chapter says of a thread's ways.
type told struct {
	lead map[string]int // by the way's text: the slot
	ways map[int][][]int
}

func isThread(s state.State, thread int) bool {
	return state.Good(s) && slices.Contains([]int{0, 1, 2, 3}[:s.Geo.Threads], thread)
}

// tellAll tries all ways that may be: of what is not Good, or no thread, there are none.
func tellAll(s state.State, thread int) told {
	v := told{lead: map[string]int{}, ways: map[int][][]int{}}
	if !isThread(s, thread) {
		return v
	}
	for _, l := range goodWays() {
		if slot := leadTold(s, thread, l); slot >= 0 {
			v.lead[fmt.Sprint(l)] = slot
			v.ways[slot] = append(v.ways[slot], l)
		}
	}
	return v
}

func (v told) reach() []int {
	var l []int
	for slot := range v.ways {
		l = append(l, slot)
	}
	slices.Sort(l)
	return l
}

// tell is a state in a test's message: what is there.
func tell(s state.State) string {
	text := fmt.Sprint(s.Geo, " of ", len(s.Slots), " slots, ", len(s.Things), " things:")
	for i, x := range s.Slots {
		if x != bare() {
			text += fmt.Sprint(" ", i, x)
		}
	}
	for t, x := range s.Things {
		if x.Type == 2 {
			text += fmt.Sprint(" node ", t, " of ", x.Bits, " at ", x.Base)
		}
	}
	return text[:min(len(text), 3000)]
}

func sameWays(a []path.Path, b [][]int) bool {
	return slices.EqualFunc(a, b, func(p path.Path, l []int) bool { return slices.Equal(p.L, l) })
}

// want is what the three calls that go one way must answer.
type want struct {
	slot           int
	c              cap.Cap
	e, full, empty api.Errno
}

// wantOf tells it of where a way leads: of -1 as EPATH.
func wantOf(s state.State, slot int) want {
	if slot < 0 {
		return want{e: 3, full: 3, empty: 3}
	}
	if c := s.Slots[slot].Cap; c != (cap.Cap{}) {
		return want{slot: slot, c: c, empty: 5}
	}
	return want{slot: slot, full: 4}
}

// checkWay holds the three calls that go one way against what they must answer; beside an error all else must be zero.
func checkWay(t *testing.T, s state.State, thread int, l []int, w want) {
	t.Helper()
	at := func(e api.Errno) int {
		if e != 0 {
			return 0
		}
		return w.slot
	}
	if slot, e := find.Slot(s, thread, way(l...)); slot != at(w.e) || e != w.e {
		t.Errorf("P13.1: Slot(%d, %d): %d, %d, want %d, %d, of %s", thread, short(l), slot, e, at(w.e), w.e, tell(s))
	}
	if slot, c, e := find.Cap(s, thread, way(l...)); slot != at(w.full) || c != w.c || e != w.full {
		t.Errorf("P13.1: Cap(%d, %d): %d, %v, %d, want %d, %v, %d, of %s", thread, short(l), slot, c, e, at(w.full), w.c, w.full, tell(s))
	}
	if slot, e := find.Empty(s, thread, way(l...)); slot != at(w.empty) || e != w.empty {
		t.Errorf("P13.1: Empty(%d, %d): %d, %d, want %d, %d, of %s", thread, short(l), slot, e, at(w.empty), w.empty, tell(s))
	}
}

func refused() want { return want{e: 1, full: 1, empty: 1} }

// checkWays asks for some ways of a thread.
func checkWays(t *testing.T, s state.State, thread int, ways [][]int) {
	t.Helper()
	v := tellAll(s, thread)
	for _, l := range ways {
		slot, ok := v.lead[fmt.Sprint(l)]
		if !ok {
			slot = -1
		}
		w := wantOf(s, slot)
		if !isThread(s, thread) {
			w = refused()
		}
		checkWay(t, s, thread, l, w)
	}
}

// checkLists asks for all ways to some slots, and for all slots that are reached.
func checkLists(t *testing.T, s state.State, thread int, slots []int) {
	t.Helper()
	v := tellAll(s, thread)
	for _, slot := range slots {
		if got := find.Ways(s, thread, slot); !sameWays(got, v.ways[slot]) {
			t.Errorf("P13.1: Ways(%d, %d): %d, want %d, of %s", thread, slot, got, v.ways[slot], tell(s))
		}
	}
	if got := find.Reach(s, thread); !slices.Equal(got, v.reach()) {
		t.Errorf("P13.1: Reach(%d): %d, want %d, of %s", thread, got, v.reach(), tell(s))
	}
}

// check asks for all ways and all slots of all threads, and of those that are none.
func check(t *testing.T, s state.State) {
	t.Helper()
	before := copyOf(s)
	for thread := range s.Geo.Threads {
		checkWays(t, s, thread, goodWays())
		checkLists(t, s, thread, append(places(len(s.Slots)), far()...))
	}
	for _, thread := range append(far(), s.Geo.Threads, s.Geo.Threads+1) {
		checkWays(t, s, thread, [][]int{{0}, {1}, {7}, {8}, {2, 0}, {2, 1, 0}, {}, {16}, {0, 0, 0, 0}})
		checkLists(t, s, thread, []int{-1, 0, 1, 8, 16, len(s.Slots)})
	}
	if !state.Same(s, before) {
		t.Errorf("R4: a call changed the state that it was handed: %s, was %s", tell(s), tell(before))
	}
}

// checkNothing holds all calls on a state that is not Good against the chapter in words of its own.
func checkNothing(t *testing.T, s state.State) {
	t.Helper()
	if state.Good(s) {
		t.Fatalf("the tests' state may be: %s", tell(s))
	}
	for _, thread := range []int{-1, 0, 1, 2, 3, 4, math.MaxInt, math.MinInt} {
		for _, l := range [][]int{{0}, {1}, {6}, {7}, {8}, {15}, {16}, {-1}, {}, {2, 0}, {2, 10}, {6, 0}, {2, 10, 1}, {6, 6, 6}, {0, 0, 0, 0}} {
			checkWay(t, s, thread, l, refused())
		}
		for _, slot := range []int{-1, 0, 1, 6, 8, 16, 26, 95, 96, math.MaxInt} {
			if got := find.Ways(s, thread, slot); len(got) != 0 {
				t.Errorf("P13.1: Ways(%d, %d): %d, of what is not Good: %s", thread, slot, got, tell(s))
			}
		}
		if got := find.Reach(s, thread); len(got) != 0 {
			t.Errorf("P13.1: Reach(%d): %d, of what is not Good: %s", thread, got, tell(s))
		}
	}
}

// copyOf is another state, alike, by the tests' own means.
func copyOf(s state.State) state.State {
	return state.State{Geo: s.Geo, Slots: append([]state.Slot{}, s.Slots...), Things: append([]thing.Thing{}, s.Things...)}
}
