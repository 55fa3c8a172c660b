package find_test

import (
	"fmt"
	"math"
	"slices"
	"testing"

	"reeve/api"
	"reeve/cap"
	"reeve/find"
	"reeve/geo"
	"reeve/path"
	"reeve/state"
	"reeve/thing"
)

func TestTheGivenNumbers(t *testing.T) {
	if api.Node != 2 || api.Read != 1 || api.MaxSteps != 3 || api.MaxBits != 4 || api.RootBits != 3 || api.MaxThreads != 4 || api.MaxSlots != 96 || api.EARG != 1 || api.EPATH != 3 || api.EEMPTY != 4 || api.ETAKEN != 5 {
		t.Errorf("the tests' numbers are not api's")
	}
}

func slot(kind, t, rights, badge, up int) state.Slot {
	return state.Slot{Cap: cap.Cap{Type: kind, Thing: t, Rights: rights, Badge: badge}, Up: up}
}

// bare is a slot that nothing is in.
func bare() state.Slot { return state.Slot{Up: -1} }

// set is a slot, by its number, and what is in it.
type set struct{ at, kind, thing, rights, badge, up int }

// first is the first state of so many threads, with all slots and things that there may be.
func first(threads int) state.State {
	s, _ := state.New(geo.Geo{Threads: threads, Slots: 96, Things: 20}, 64)
	return s
}

// rich has, in thread 0's root (thing 2, slots 0 to 7): the room, the box 1, nodes of 4, 3, 2 and 1 bits (things 4 to 7, at slots 16, 32, 40, 44), nothing, a bell (9).
// In node 4, at its step 10, node 11 (slots 48, 49), in that, at 1, node 12 (50, 51), in that, at 0, node 13 (52, 53): too deep. At step 15 of node 4 a leaf (8).
// Thread 1's root (thing 3, slots 8 to 15) has the box at 1, and node 5, read alone, at 2.
func rich(t *testing.T) state.State {
	t.Helper()
	s := first(2)
	for i, x := range []struct{ bits, base int }{4: {4, 16}, 5: {3, 32}, 6: {2, 40}, 7: {1, 44}, 11: {1, 48}, 12: {1, 50}, 13: {1, 52}} {
		if x.bits > 0 {
			s.Things[i] = thing.Thing{Type: 2, Bits: x.bits, Base: x.base}
		}
	}
	s.Things[8], s.Things[9] = thing.Thing{Type: 5}, thing.Thing{Type: 4}
	return with(t, s, set{2, 2, 4, 7, 0, 0}, set{3, 2, 5, 7, 0, 0}, set{4, 2, 6, 7, 0, 0}, set{5, 2, 7, 7, 0, 0}, set{7, 4, 9, 7, 0, 0}, set{10, 2, 5, 1, 0, 3},
		set{26, 2, 11, 7, 0, 0}, set{49, 2, 12, 7, 0, 0}, set{50, 2, 13, 7, 0, 0}, set{31, 5, 8, 7, 0, 0})
}

// with is a state with some slots set otherwise, which must be one that may be.
func with(t *testing.T, s state.State, l ...set) state.State {
	t.Helper()
	s = copyOf(s)
	for _, x := range l {
		s.Slots[x.at] = slot(x.kind, x.thing, x.rights, x.badge, x.up)
	}
	if !state.Good(s) {
		t.Fatalf("the tests' state may not be: %s", tell(s))
	}
	return s
}

// checkTo asks for one way in numbers.
func checkTo(t *testing.T, s state.State, thread int, l []int, slot int) {
	t.Helper()
	checkWay(t, s, thread, l, wantOf(s, slot))
}

func TestAllOfSomeStates(t *testing.T) {
	check(t, rich(t))
	for threads := 1; threads <= 4; threads++ {
		check(t, first(threads))
		least, _ := state.New(geo.Geo{Threads: threads, Slots: 8 * threads, Things: threads + 2}, 1)
		check(t, least)
	}
}

func TestTheExample(t *testing.T) {
	s, _ := state.New(geo.Plain(), 64)
	if slot, e := find.Slot(s, 1, way(1)); slot != 9 || e != api.OK {
		t.Errorf("P13.1: way 1 of thread 1: %d, %d", slot, e)
	}
	if slot, c, e := find.Cap(s, 1, way(1)); slot != 9 || c != (cap.Cap{Type: 3, Thing: 1, Rights: 7}) || e != api.OK {
		t.Errorf("P13.1: Cap of way 1 of thread 1: %d, %v, %d", slot, c, e)
	}
	if slot, c, e := find.Cap(s, 1, way(0)); slot != 0 || c != (cap.Cap{}) || e != api.EEMPTY {
		t.Errorf("P13.1: Cap of way 0 of thread 1: %d, %v, %d", slot, c, e)
	}
	if slot, e := find.Empty(s, 1, way(0)); slot != 8 || e != api.OK {
		t.Errorf("P13.1: Empty of way 0 of thread 1: %d, %d", slot, e)
	}
	if slot, e := find.Empty(s, 1, way(1)); slot != 0 || e != api.ETAKEN {
		t.Errorf("P13.1: Empty of way 1 of thread 1: %d, %d", slot, e)
	}
}

func TestThreads(t *testing.T) {
	for threads := 1; threads <= 4; threads++ {
		s := first(threads)
		for thread := range threads {
			for step := range 8 {
				checkTo(t, s, thread, []int{step}, 8*thread+step)
			}
			checkTo(t, s, thread, []int{8}, -1)
			checkTo(t, s, thread, []int{15}, -1)
		}
		for _, thread := range append(far(), threads, threads+1, 5) {
			for _, l := range [][]int{{0}, {1}, {7}, {8}, {1, 0}, {}, {16}, {0, 0, 0, 0}} {
				checkWay(t, s, thread, l, refused())
			}
			for i := range 34 {
				if got := find.Ways(s, thread, i); len(got) != 0 {
					t.Errorf("P13.1: Ways(%d, %d) of %d threads: %d", thread, i, threads, got)
				}
			}
			if got := find.Reach(s, thread); len(got) != 0 {
				t.Errorf("P13.1: Reach(%d) of %d threads: %d", thread, threads, got)
			}
		}
	}
}

// A way that may not be is EARG, also where its first steps would lead nowhere.
func TestWaysThatMayNotBe(t *testing.T) {
	s := rich(t)
	for _, l := range badWays() {
		for _, thread := range []int{-1, 0, 1, 2} {
			checkWay(t, s, thread, l, refused())
		}
	}
	for _, l := range [][]int{{8, 16}, {15, -1}, {6, 16}, {6, 0, 16}, {0, 0, -1}, {2, 0, 0, 0}, {2, 10, 1, 0}, {2, 10, 1, 1}, {6, 0, 0, 0}, {8, 8, 8, 8}} {
		checkWay(t, s, 0, l, refused())
	}
}

// Each node's first step, its last one, and one past it.
func TestEdgesOfNodes(t *testing.T) {
	s := rich(t)
	for _, c := range []struct{ step, bits, base, last int }{{2, 4, 16, 31}, {3, 3, 32, 39}, {4, 2, 40, 43}, {5, 1, 44, 45}} {
		n := c.last - c.base + 1
		for step := range n {
			checkTo(t, s, 0, []int{c.step, step}, c.base+step)
		}
		for step := n; step < 16; step++ {
			checkTo(t, s, 0, []int{c.step, step}, -1)
		}
		checkWay(t, s, 0, []int{c.step, 16}, refused())
		if got := find.Ways(s, 0, c.last); !sameWays(got, [][]int{{c.step, n - 1}}) {
			t.Errorf("P13.1: Ways to the last slot of a node of %d bits: %d", c.bits, got)
		}
	}
	checkTo(t, s, 0, []int{0}, 0)
	checkTo(t, s, 0, []int{7}, 7)
	checkTo(t, s, 0, []int{8}, -1)
	checkTo(t, s, 0, []int{2, 10, 0}, 48)
	checkTo(t, s, 0, []int{2, 10, 1}, 49)
	checkTo(t, s, 0, []int{2, 10, 2}, -1)
	checkTo(t, s, 0, []int{2, 10, 15}, -1)
	checkTo(t, s, 1, []int{2, 7}, 39)
	checkTo(t, s, 1, []int{2, 8}, -1)
}

// A way goes on through a Node's capability with Read alone; to a slot it leads whatever is in it.
func TestWhatWaysGoThrough(t *testing.T) {
	s := rich(t)
	checkTo(t, s, 0, []int{6}, 6)
	for step := range 16 {
		checkTo(t, s, 0, []int{6, step}, -1)
		checkTo(t, s, 0, []int{2, 0, step}, -1)
	}
	kinds := []set{{kind: 1, thing: 0}, {kind: 2, thing: 7}, {kind: 3, thing: 1}, {kind: 3, thing: 1, badge: 1}, {kind: 4, thing: 9}, {kind: 4, thing: 9, badge: 65535}, {kind: 5, thing: 8}}
	for _, x := range kinds {
		for rights := range 8 {
			x.at, x.rights, x.up = 6, rights, -1
			y := x
			y.at = 16
			s := with(t, rich(t), x, y)
			to, last := -1, -1
			if x.kind == 2 && slices.Contains([]int{1, 3, 5, 7}, rights) {
				to, last = 44, 45
			}
			checkTo(t, s, 0, []int{6, 0}, to)
			checkTo(t, s, 0, []int{6, 1}, last)
			checkTo(t, s, 0, []int{6, 2}, -1)
			checkTo(t, s, 0, []int{6, 0, 0}, -1)
			checkTo(t, s, 0, []int{2, 0, 0}, to)
			checkTo(t, s, 0, []int{6}, 6)
			checkTo(t, s, 0, []int{2, 0}, 16)
			checkLists(t, s, 0, places(96))
		}
	}
}

// Whose a node is, does not count: its capability alone does. (Another thread's root is a node, too.)
func TestAnothersNodes(t *testing.T) {
	s := with(t, rich(t), set{6, 2, 3, 7, 0, -1})
	checkTo(t, s, 0, []int{6, 1}, 9)
	checkTo(t, s, 0, []int{6, 2, 7}, 39)
	checkTo(t, s, 1, []int{2, 7}, 39)
	if got := find.Ways(s, 0, 9); !sameWays(got, [][]int{{6, 1}}) {
		t.Errorf("P13.1: Ways to another thread's slot: %d", got)
	}
	if got := find.Ways(s, 1, 6); len(got) != 0 {
		t.Errorf("P13.1: Ways back from a root that another one has: %d", got)
	}
	check(t, s)
}

// Of two faults in one way the first one is answered: and a way that leads nowhere ahead of what is, or is not, in a slot.
func TestTheFirstFault(t *testing.T) {
	s := with(t, rich(t), set{40, 2, 7, 6, 0, 5})
	for _, l := range [][]int{{8, 0}, {8, 8}, {8, 15, 15}, {6, 8}, {6, 0, 0}, {0, 8}, {2, 0, 8}, {2, 15, 0}, {4, 0, 2}, {4, 4, 4}, {4, 4, 0}, {5, 2, 0}, {7, 15, 15}} {
		checkTo(t, s, 0, l, -1)
	}
	for _, l := range [][]int{{8, 16}, {6, 0, 16}, {4, 0, -1}, {8, 8, 8, 8}} {
		checkWay(t, s, 0, l, refused())
		checkWay(t, s, 2, l, refused())
	}
	for _, l := range [][]int{{8}, {6, 0}, {7, 0}} {
		checkWay(t, s, 2, l, refused())
		checkWay(t, s, -1, l, refused())
	}
}

func TestCapAndEmptyInNumbers(t *testing.T) {
	s := rich(t)
	for _, c := range []struct {
		l    []int
		slot int
		c    cap.Cap
	}{
		{[]int{0}, 0, cap.Cap{Type: 1, Thing: 0, Rights: 7}}, {[]int{1}, 1, cap.Cap{Type: 3, Thing: 1, Rights: 7}}, {[]int{2}, 2, cap.Cap{Type: 2, Thing: 4, Rights: 7}}, {[]int{7}, 7, cap.Cap{Type: 4, Thing: 9, Rights: 7}},
		{[]int{2, 10}, 26, cap.Cap{Type: 2, Thing: 11, Rights: 7}}, {[]int{2, 15}, 31, cap.Cap{Type: 5, Thing: 8, Rights: 7}}, {[]int{2, 10, 1}, 49, cap.Cap{Type: 2, Thing: 12, Rights: 7}},
	} {
		checkWay(t, s, 0, c.l, want{slot: c.slot, c: c.c, empty: api.ETAKEN})
	}
	for _, c := range []struct {
		l    []int
		slot int
	}{{[]int{6}, 6}, {[]int{2, 0}, 16}, {[]int{2, 14}, 30}, {[]int{3, 7}, 39}, {[]int{4, 3}, 43}, {[]int{5, 0}, 44}, {[]int{2, 10, 0}, 48}} {
		checkWay(t, s, 0, c.l, want{slot: c.slot, full: api.EEMPTY})
	}
	checkWay(t, s, 1, []int{2}, want{slot: 10, c: cap.Cap{Type: 2, Thing: 5, Rights: 1}, empty: api.ETAKEN})
	s = with(t, s, set{48, 3, 1, 0, 77, 1})
	checkWay(t, s, 0, []int{2, 10, 0}, want{slot: 48, c: cap.Cap{Type: 3, Thing: 1, Badge: 77}, empty: api.ETAKEN})
}

// several has many ways to node 7's slots 44 and 45: as numbers their steps are not in the order of their texts, or of how many they are.
func several(t *testing.T) state.State {
	t.Helper()
	return with(t, rich(t), set{18, 2, 7, 1, 0, 5}, set{25, 2, 7, 3, 0, 5}, set{27, 2, 7, 5, 0, 5}, set{28, 2, 7, 6, 0, 5}, set{32, 2, 7, 7, 0, 5}, set{6, 2, 7, 7, 0, -1}, set{1, 2, 7, 1, 0, 6}, set{43, 2, 4, 7, 0, 2}, set{7, 2, 11, 1, 0, 26}, set{9, 2, 2, 7, 0, -1}, set{11, 3, 1, 7, 0, -1}, set{12, 4, 9, 7, 0, -1}, set{48, 2, 7, 0, 0, 5})
}

func TestWaysInOrder(t *testing.T) {
	s := several(t)
	for _, c := range []struct {
		thread, slot int
		want         string
	}{
		{0, 44, "[{[1 0]} {[2 2 0]} {[2 9 0]} {[2 11 0]} {[3 0 0]} {[5 0]} {[6 0]}]"},
		{0, 45, "[{[1 1]} {[2 2 1]} {[2 9 1]} {[2 11 1]} {[3 0 1]} {[5 1]} {[6 1]}]"},
		{0, 48, "[{[2 10 0]} {[7 0]}]"},
		{0, 49, "[{[2 10 1]} {[7 1]}]"},
		{0, 50, "[{[7 1 0]}]"},
		{0, 16, "[{[2 0]} {[4 3 0]}]"},
		{0, 31, "[{[2 15]} {[4 3 15]}]"},
		{0, 18, "[{[2 2]} {[4 3 2]}]"},
		{0, 1, "[{[1]}]"},
		{0, 9, "[]"},
		{1, 44, "[{[1 1 0]} {[1 5 0]} {[1 6 0]} {[2 0 0]}]"},
		{1, 0, "[{[1 0]}]"},
		{1, 16, "[{[1 2 0]}]"},
		{1, 32, "[{[1 3 0]} {[2 0]}]"},
		{1, 48, "[{[1 7 0]}]"},
		{1, 9, "[{[1]}]"},
	} {
		if got := fmt.Sprint(find.Ways(s, c.thread, c.slot)); got != c.want {
			t.Errorf("P13.1: Ways(%d, %d): %s, want %s", c.thread, c.slot, got, c.want)
		}
	}
	check(t, s)
}

// Where a way begins with another, it leads to another slot: none is in one list with the other, but both are told.
func TestAWayThatBeginsWithAnother(t *testing.T) {
	s := several(t)
	for slot, want := range map[int]string{2: "[{[2]}]", 26: "[{[2 10]} {[4 3 10]}]", 48: "[{[2 10 0]} {[7 0]}]", 7: "[{[7]}]"} {
		if got := fmt.Sprint(find.Ways(s, 0, slot)); got != want {
			t.Errorf("P13.1: Ways(0, %d): %s, want %s", slot, got, want)
		}
	}
	for thread := range 2 {
		for slot := range 96 {
			l := find.Ways(s, thread, slot)
			for i, p := range l {
				for _, q := range l[i+1:] {
					if slices.Compare(p.L, q.L) >= 0 || path.Begins(q, p) {
						t.Errorf("P13.1: Ways(%d, %d): %d ahead of %d", thread, slot, p.L, q.L)
					}
				}
			}
		}
	}
}

func TestWaysToNowhere(t *testing.T) {
	s := rich(t)
	for _, slot := range append(far(), 8, 9, 15, 46, 47, 50, 51, 52, 53, 54, 95, 96, 98) {
		if got := find.Ways(s, 0, slot); len(got) != 0 {
			t.Errorf("P13.1: Ways(0, %d): %d", slot, got)
		}
	}
	for _, slot := range append(far(), 0, 7, 16, 40, 48, 95, 96) {
		if got := find.Ways(s, 1, slot); len(got) != 0 {
			t.Errorf("P13.1: Ways(1, %d): %d", slot, got)
		}
	}
}

// Without Read no way goes through a Node's capability; where another one has it, through that.
func TestWaysWithoutRead(t *testing.T) {
	for rights := range 8 {
		s := with(t, rich(t), set{2, 2, 4, rights, 0, 0})
		ways, deep := "[]", "[]"
		if rights%2 == 1 {
			ways, deep = "[{[2 10]}]", "[{[2 10 1]}]"
		}
		if got := fmt.Sprint(find.Ways(s, 0, 26), find.Ways(s, 0, 49)); got != ways+" "+deep {
			t.Errorf("P13.1: Ways through a Node's capability of rights %d: %s", rights, got)
		}
		if got := slices.Contains(find.Reach(s, 0), 16); got != (rights%2 == 1) {
			t.Errorf("P13.1: Reach through a Node's capability of rights %d: %v", rights, got)
		}
		s = with(t, s, set{12, 2, 4, rights, 0, 2}, set{13, 2, 4, 1, 0, -1})
		if got := find.Ways(s, 1, 26); fmt.Sprint(got[len(got)-1:]) != "[{[5 10]}]" || len(got) != 1+rights%2 {
			t.Errorf("P13.1: Ways with and without Read, of rights %d: %d", rights, got)
		}
		checkLists(t, s, 0, places(96))
		checkLists(t, s, 1, places(96))
	}
}

// chain has nodes of one bit, each in the last slot of the one above, the first one in thread 0's slot 3.
func chain(t *testing.T, n int) state.State {
	t.Helper()
	s := first(1)
	l := []set{{3, 2, 3, 7, 0, 0}}
	for i := range n {
		s.Things[3+i] = thing.Thing{Type: 2, Bits: 1, Base: 8 + 2*i}
		l = append(l, set{9 + 2*i, 2, 4 + i, 7, 0, 0})
	}
	return with(t, s, l[:n]...)
}

func TestDeepNodes(t *testing.T) {
	for n := 1; n <= 16; n++ {
		s := chain(t, n)
		reach := []int{0, 1, 2, 3, 4, 5, 6, 7, 8, 9, 10, 11}[:min(12, 8+2*n)]
		if got := find.Reach(s, 0); !slices.Equal(got, reach) {
			t.Errorf("P13.1: Reach of a chain of %d: %d", n, got)
		}
		ways := map[int][][]int{8: {{3, 0}}, 9: {{3, 1}}, 10: {{3, 1, 0}}, 11: {{3, 1, 1}}}
		for slot := 8; slot < 96; slot++ {
			want := ways[slot]
			if !slices.Contains(reach, slot) {
				want = nil
			}
			if got := find.Ways(s, 0, slot); !sameWays(got, want) {
				t.Errorf("P13.1: Ways(0, %d) of a chain of %d: %d", slot, n, got)
			}
		}
		checkWay(t, s, 0, []int{3, 1, 1, 0}, refused())
	}
	check(t, chain(t, 3))
}

func TestReachInNumbers(t *testing.T) {
	s := rich(t)
	root := []int{0, 1, 2, 3, 4, 5, 6, 7}
	if got := find.Reach(first(1), 0); !slices.Equal(got, root) {
		t.Errorf("P13.1: Reach of a root alone: %d", got)
	}
	if got := find.Reach(first(4), 3); !slices.Equal(got, []int{24, 25, 26, 27, 28, 29, 30, 31}) {
		t.Errorf("P13.1: Reach of the last thread's root alone: %d", got)
	}
	all := slices.Concat(root, []int{16, 17, 18, 19, 20, 21, 22, 23, 24, 25, 26, 27, 28, 29, 30, 31, 32, 33, 34, 35, 36, 37, 38, 39, 40, 41, 42, 43, 44, 45, 48, 49})
	if got := find.Reach(s, 0); !slices.Equal(got, all) {
		t.Errorf("P13.1: Reach of a thread with nodes: %d", got)
	}
	if got := find.Reach(with(t, s, set{6, 2, 7, 7, 0, 5}, set{32, 2, 7, 7, 0, 5}, set{16, 2, 11, 1, 0, 26}), 0); !slices.Equal(got, all) {
		t.Errorf("P13.1: Reach of a thread with nodes that two slots hold: %d", got)
	}
	if got := find.Reach(s, 1); !slices.Equal(got, []int{8, 9, 10, 11, 12, 13, 14, 15, 32, 33, 34, 35, 36, 37, 38, 39}) {
		t.Errorf("P13.1: Reach of thread 1: %d", got)
	}
	if got := find.Reach(with(t, s, set{10, 2, 5, 6, 0, 3}), 1); !slices.Equal(got, []int{8, 9, 10, 11, 12, 13, 14, 15}) {
		t.Errorf("P13.1: Reach of thread 1 without Read: %d", got)
	}
	if got := find.Reach(with(t, s, set{6, 2, 13, 7, 0, 50}), 0); !slices.Equal(got, append(slices.Clone(all), 52, 53)) {
		t.Errorf("P13.1: Reach of what is too deep by one way, but not by another: %d", got)
	}
	if got := find.Reach(with(t, s, set{15, 2, 2, 7, 0, -1}), 1); slices.Contains(got, 48) || !slices.Contains(got, 45) || !slices.IsSorted(got) || len(slices.Compact(slices.Clone(got))) != len(got) {
		t.Errorf("P13.1: Reach of a thread with another one's root: %d", got)
	}
}

// Ways and Reach against Slot, in words of its own: each way that Slot knows is in its slot's list, and there is no other one.
func TestListsAgainstSlot(t *testing.T) {
	for _, s := range []state.State{rich(t), several(t), chain(t, 4), first(4)} {
		for thread := range s.Geo.Threads {
			at, ways := [96]int{}, [96][]path.Path{}
			for slot := range 96 {
				ways[slot] = find.Ways(s, thread, slot)
			}
			for _, l := range goodWays() {
				slot, e := find.Slot(s, thread, way(l...))
				if e != api.OK {
					continue
				}
				if at[slot] >= len(ways[slot]) || !slices.Equal(ways[slot][at[slot]].L, l) {
					t.Errorf("P13.1: Ways(%d, %d) has not %d in its place: %d", thread, slot, l, ways[slot])
				}
				at[slot]++
			}
			var reach []int
			for slot := range 96 {
				if at[slot] != len(ways[slot]) {
					t.Errorf("P13.1: Ways(%d, %d): %d, of these %d lead there", thread, slot, ways[slot], at[slot])
				}
				if at[slot] > 0 {
					reach = append(reach, slot)
				}
			}
			if got := find.Reach(s, thread); !slices.Equal(got, reach) {
				t.Errorf("P13.1: Reach(%d): %d, want %d", thread, got, reach)
			}
		}
	}
}

// Each clause of what makes a state Good, broken by itself.
func TestStatesThatAreNotGood(t *testing.T) {
	for i, change := range []func(s *state.State){
		func(s *state.State) { s.Geo.Threads = 3 },
		func(s *state.State) { s.Geo.Threads = 0 },
		func(s *state.State) { s.Geo.Threads = 1 << 32 },
		func(s *state.State) { s.Geo.Slots = 88 },
		func(s *state.State) { s.Geo.Things++ },
		func(s *state.State) { s.Geo = geo.Geo{} },
		func(s *state.State) { s.Slots = s.Slots[:88] },
		func(s *state.State) { s.Slots = append(s.Slots, bare()) },
		func(s *state.State) { s.Slots = nil },
		func(s *state.State) { s.Slots = make([]state.Slot, 1<<20) },
		func(s *state.State) { s.Things = s.Things[:19] },
		func(s *state.State) { s.Things = nil },
		func(s *state.State) { s.Things = make([]thing.Thing, 1<<20) },
		func(s *state.State) { s.Slots[6].Cap.Rights = 1 },
		func(s *state.State) { s.Slots[7].Cap.Rights = 8 },
		func(s *state.State) { s.Slots[7].Cap.Thing = 20 },
		func(s *state.State) { s.Slots[2].Cap.Thing = math.MaxInt },
		func(s *state.State) { s.Slots[2].Cap.Thing = -1 },
		func(s *state.State) { s.Slots[2].Cap.Thing = 14 },
		func(s *state.State) { s.Slots[2].Cap.Type = 5 },
		func(s *state.State) { s.Slots[2].Cap.Badge = 1 },
		func(s *state.State) { s.Slots[6].Up = 0 },
		func(s *state.State) { s.Slots[0].Up = 0 },
		func(s *state.State) { s.Slots[2].Up = 6 },
		func(s *state.State) { s.Slots[2].Up = 1 },
		func(s *state.State) { s.Slots[54] = slot(4, 9, 7, 0, 7) },
		func(s *state.State) { s.Slots[95] = slot(4, 9, 7, 0, -1) },
		func(s *state.State) { s.Things[2] = thing.Thing{} },
		func(s *state.State) { s.Things[3].Base = 54 },
		func(s *state.State) { s.Things[2].Bits = 2 },
		func(s *state.State) { s.Things[4].Bits = 63 },
		func(s *state.State) { s.Things[4].Bits = -1 },
		func(s *state.State) { s.Things[4].Bits = 64 },
		func(s *state.State) { s.Things[7].Base = 43 },
		func(s *state.State) { s.Things[7].Base = -2 },
		func(s *state.State) { s.Things[13].Base = 95 },
		func(s *state.State) { s.Things[13].Base = math.MaxInt },
		func(s *state.State) { s.Things[14] = thing.Thing{Type: 4} },
		func(s *state.State) { s.Things[1].Word = 1 },
		func(s *state.State) { s.Things[1] = thing.Thing{Type: 3, Full: true, From: 7} },
		func(s *state.State) { s.Slots[6] = slot(2, 2, 7, 0, -1) },
		func(s *state.State) { s.Slots[16] = slot(2, 4, 7, 0, 2) },
		func(s *state.State) { s.Slots[48] = slot(2, 4, 7, 0, 2) },
		func(s *state.State) { s.Slots[52] = slot(2, 2, 1, 0, -1) },
		func(s *state.State) { s.Slots[6], s.Slots[14] = slot(2, 3, 7, 0, -1), slot(2, 2, 7, 0, -1) },
		func(s *state.State) { *s = state.State{} },
		func(s *state.State) { *s = state.State{Geo: geo.Plain()} },
	} {
		s := copyOf(rich(t))
		change(&s)
		if state.Good(s) {
			t.Errorf("change %d leaves the state Good", i)
			continue
		}
		before := copyOf(s)
		checkNothing(t, s)
		if !state.Same(s, before) {
			t.Errorf("R4: a call changed the state that it was handed: %s", tell(s))
		}
	}
}
