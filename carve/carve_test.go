package carve_test

import (
	"math"
	"slices"
	"testing"

	"reeve/api"
	"reeve/call"
	"reeve/cap"
	"reeve/carve"
	"reeve/geo"
	"reeve/path"
	"reeve/state"
	"reeve/thing"
)

func TestTheGivenNumbers(t *testing.T) {
	if api.Room != 1 || api.Node != 2 || api.Mail != 3 || api.Bell != 4 || api.Leaf != 5 || api.Write != 2 || api.All != 7 || api.MaxRoom != 4096 || api.MaxBits != 4 || api.MaxSlots != 96 || api.MaxThings != 48 {
		t.Errorf("the tests' numbers are not api's")
	}
	if api.EARG != 1 || api.EPATH != 3 || api.EEMPTY != 4 || api.ETAKEN != 5 || api.ERIGHT != 6 || api.ETYPE != 7 || api.EROOM != 8 {
		t.Errorf("the tests' errors are not api's")
	}
}

// rich has two threads. In thread 0's root (slots 0 to 7): room 0 (60 of 64 used), the box 1, node 4 (slots 16 to 31), room 5 (all 20 used by the leaf 10), room 6 (of 10, without Write), nothing at 5 to 7.
// In thread 1's root (slots 8 to 15): the box at 1, node 4 to be read alone at 2, node 7 (slots 32, 33) without Read at 3, room 8 (of 40) with Write alone at 4.
// In node 4: room 9 (90 of 100 used, of which nothing came any more) at 0, the leaf 10 at 1, node 7 at 2, a bell (11) without Write at 3; in node 7 nothing.
func rich(t *testing.T) state.State {
	t.Helper()
	s := first(2, 64)
	s.Things[0].Used = 60
	for i, x := range map[int]thing.Thing{
		4: {Type: 2, Bits: 4, Base: 16}, 5: {Type: 1, Size: 20, Used: 20}, 6: {Type: 1, Size: 10}, 7: {Type: 2, Bits: 1, Base: 32},
		8: {Type: 1, Size: 40}, 9: {Type: 1, Size: 100, Used: 90}, 10: {Type: 5}, 11: {Type: 4, Word: 8},
	} {
		s.Things[i] = x
	}
	for i, x := range map[int]state.Slot{
		2: slot(2, 4, 7, 0, 0), 3: slot(1, 5, 7, 0, 0), 4: slot(1, 6, 5, 0, 0), 10: slot(2, 4, 1, 0, 2), 11: slot(2, 7, 6, 0, 18),
		12: slot(1, 8, 2, 0, -1), 16: slot(1, 9, 7, 0, -1), 17: slot(5, 10, 7, 0, 3), 18: slot(2, 7, 7, 0, 0), 19: slot(4, 11, 5, 0, 0),
	} {
		s.Slots[i] = x
	}
	return fine(t, s)
}

// fine holds a state of the tests to be one that may be.
func fine(t *testing.T, s state.State) state.State {
	t.Helper()
	if !state.Good(s) {
		t.Fatalf("the tests' state may not be: %s", tell(s))
	}
	return s
}

// changed is a state, changed in some places, which must be one that may be.
func changed(t *testing.T, s state.State, change func(s *state.State)) state.State {
	t.Helper()
	s = copyOf(s)
	change(&s)
	return fine(t, s)
}

// refused holds a call that must be refused against its error, in numbers: beside it nothing is told, and the state is as it was.
func refused(t *testing.T, s state.State, thread int, c call.Call, want api.Errno) {
	t.Helper()
	next, r := check(t, s, thread, c)
	if r.Err != want || r.W != 0 || r.N != 0 || !state.Same(next, s) {
		t.Errorf("P15.1: Do(%d, %s): %+v, want the error %d alone, and %s as it was", thread, short(c), r, want, tell(s))
	}
}

// goes holds a call that must go well against the number that it must tell.
func goes(t *testing.T, s state.State, thread int, c call.Call, n int) state.State {
	t.Helper()
	next, r := check(t, s, thread, c)
	if r.Err != 0 || r.W != 0 || r.N != n {
		t.Errorf("P15.1: Do(%d, %s): %+v, want N %d, of %s", thread, short(c), r, n, tell(s))
	}
	return next
}

func TestTheExample(t *testing.T) {
	s, _ := state.New(geo.Plain(), 64)
	next, r := carve.Do(s, 0, call.Call{Op: 1, A: path.Path{L: []int{0}}, B: path.Path{L: []int{3}}, X: api.Bell})
	if r != (state.Reply{N: 4}) {
		t.Errorf("P15.1: make 0 to 3, kind Bell: %+v", r)
	}
	if next.Things[4] != (thing.Thing{Type: api.Bell}) || next.Things[0] != (thing.Thing{Type: api.Room, Size: 64, Used: 1}) {
		t.Errorf("P15.1: make 0 to 3, kind Bell: things %+v, %+v", next.Things[4], next.Things[0])
	}
	if next.Slots[3] != (state.Slot{Cap: cap.Cap{Type: api.Bell, Thing: 4, Rights: api.All}, Up: 0}) {
		t.Errorf("P15.1: make 0 to 3, kind Bell: slot %+v", next.Slots[3])
	}
	for threads := 1; threads <= 4; threads++ {
		goes(t, first(threads, 64), 0, toMake([]int{0}, []int{3}, 4, 0), threads+2)
	}
}

// Each kind with sizes at their least and their most: what is made, and what the Room's Used is behind it.
func TestEachKind(t *testing.T) {
	s := first(2, 4096)
	for _, c := range []struct {
		kind, size, used int
		want             thing.Thing
	}{
		{1, 1, 1, thing.Thing{Type: 1, Size: 1}}, {1, 2, 2, thing.Thing{Type: 1, Size: 2}}, {1, 4095, 4095, thing.Thing{Type: 1, Size: 4095}}, {1, 4096, 4096, thing.Thing{Type: 1, Size: 4096}},
		{2, 1, 2, thing.Thing{Type: 2, Bits: 1, Base: 16}}, {2, 2, 4, thing.Thing{Type: 2, Bits: 2, Base: 16}}, {2, 3, 8, thing.Thing{Type: 2, Bits: 3, Base: 16}}, {2, 4, 16, thing.Thing{Type: 2, Bits: 4, Base: 16}},
		{3, 0, 1, thing.Thing{Type: 3}}, {3, 1, 1, thing.Thing{Type: 3}}, {3, 4096, 1, thing.Thing{Type: 3}},
		{4, 0, 1, thing.Thing{Type: 4}}, {4, 1, 1, thing.Thing{Type: 4}}, {4, 4096, 1, thing.Thing{Type: 4}},
		{5, 0, 2, thing.Thing{Type: 5}}, {5, 1, 2, thing.Thing{Type: 5}}, {5, 4096, 2, thing.Thing{Type: 5}},
	} {
		next := goes(t, s, 0, toMake([]int{0}, []int{5}, c.kind, c.size), 4)
		if next.Things[4] != c.want || next.Things[0] != (thing.Thing{Type: 1, Size: 4096, Used: c.used}) || next.Slots[5] != slot(c.kind, 4, 7, 0, 0) {
			t.Errorf("P15.1: kind %d of size %d: %+v of %+v in %+v", c.kind, c.size, next.Things[4], next.Things[0], next.Slots[5])
		}
		if got := carve.Used(next, 0); got != c.used {
			t.Errorf("P15.1: Used behind kind %d of size %d: %d, want %d", c.kind, c.size, got, c.used)
		}
	}
}

// A size that Cost refuses is told behind a slot that is taken; one that a call may not have is told ahead of all.
func TestSizesThatMayNotBe(t *testing.T) {
	s := first(2, 4096)
	for _, c := range [][2]int{{1, 0}, {2, 0}, {2, 5}, {2, 6}, {2, 64}, {2, 4095}, {2, 4096}} {
		refused(t, s, 0, toMake([]int{0}, []int{5}, c[0], c[1]), api.EARG)
		refused(t, s, 0, toMake([]int{0}, []int{1}, c[0], c[1]), api.ETAKEN)
		refused(t, s, 0, toMake([]int{2}, []int{1}, c[0], c[1]), api.EEMPTY)
	}
	for kind := 1; kind <= 5; kind++ {
		for _, size := range []int{-1, 4097, 65536, 1 << 32, 1<<32 + 1, math.MinInt, math.MaxInt} {
			for _, ways := range [][2]int{{0, 5}, {0, 1}, {2, 1}, {9, 9}} {
				refused(t, s, 0, toMake([]int{ways[0]}, []int{ways[1]}, kind, size), api.EARG)
			}
		}
		for size := range 4097 {
			next, r := carve.Do(s, 0, toMake([]int{0}, []int{5}, kind, size))
			if (r.Err == api.OK) != (costTold(kind, size) > 0) || next.Things[0].Used != costTold(kind, size) {
				t.Errorf("P15.1: kind %d of size %d: %+v, then %+v", kind, size, r, next.Things[0])
			}
		}
	}
}

// All eight rights of the Room's capability: the new one has all rights, whatever that has.
func TestRightsOfTheRoom(t *testing.T) {
	for rights := range 8 {
		s := changed(t, first(2, 64), func(s *state.State) { s.Slots[0].Cap.Rights = rights })
		for kind := 1; kind <= 5; kind++ {
			c := toMake([]int{0}, []int{5}, kind, 3)
			if !slices.Contains([]int{2, 3, 6, 7}, rights) {
				refused(t, s, 0, c, api.ERIGHT)
				continue
			}
			if next := goes(t, s, 0, c, 4); next.Slots[5] != slot(kind, 4, 7, 0, 0) || next.Slots[0] != s.Slots[0] {
				t.Errorf("P15.1: of a Room with rights %d: %+v", rights, next.Slots[5])
			}
		}
	}
}

// Of what is no Room's nothing is made, whatever its rights.
func TestOfOtherKinds(t *testing.T) {
	for kind := 2; kind <= 5; kind++ {
		s := goes(t, first(2, 64), 0, toMake([]int{0}, []int{5}, kind, 2), 4)
		for rights := range 8 {
			s := changed(t, s, func(s *state.State) { s.Slots[5].Cap.Rights = rights })
			for _, b := range []int{0, 1, 2, 5, 9} {
				refused(t, s, 0, toMake([]int{5}, []int{b}, 4, 0), api.ETYPE)
				refused(t, s, 0, toMake([]int{5}, []int{b}, 1, 0), api.ETYPE)
			}
		}
	}
}

// A cost that just fits, and one that is more by one; with some of it used by what came of it.
func TestRoomThatIsLeft(t *testing.T) {
	for _, c := range []struct{ kind, size, cost int }{{1, 1, 1}, {1, 7, 7}, {2, 1, 2}, {2, 2, 4}, {2, 3, 8}, {2, 4, 16}, {3, 9, 1}, {4, 9, 1}, {5, 9, 2}} {
		for _, used := range []int{1, 5, 4000} {
			for left := 0; left <= c.cost+1; left++ {
				s := goes(t, first(2, used+left), 0, toMake([]int{0}, []int{2}, 1, used), 4)
				x := toMake([]int{0}, []int{3}, c.kind, c.size)
				if left < c.cost {
					refused(t, s, 0, x, api.EROOM)
					continue
				}
				if next := goes(t, s, 0, x, 5); next.Things[0].Used != used+c.cost || carve.Used(next, 0) != used+c.cost || next.Things[0].Size != used+left {
					t.Errorf("P15.1: %d of %d used, then kind %d of size %d: %+v", used, used+left, c.kind, c.size, next.Things[0])
				}
			}
		}
		if c.cost > 1 {
			refused(t, first(2, c.cost-1), 0, toMake([]int{0}, []int{3}, c.kind, c.size), api.EROOM)
		}
		goes(t, first(2, c.cost), 0, toMake([]int{0}, []int{3}, c.kind, c.size), 4)
	}
	refused(t, first(2, 4095), 0, toMake([]int{0}, []int{3}, 1, 4096), api.EROOM)
	goes(t, first(2, 4096), 0, toMake([]int{0}, []int{3}, 1, 4096), 4)
}

// One after the other until the room is full: what is told as used is all that was made of it.
func TestUntilItIsFull(t *testing.T) {
	s := first(1, 5)
	for i, want := range []int{1, 2, 3, 4, 5} {
		s = goes(t, s, 0, toMake([]int{0}, []int{2 + i}, 4, 0), 3+i)
		if got := carve.Used(s, 0); got != want {
			t.Errorf("P15.1: Used behind %d bells: %d", want, got)
		}
	}
	refused(t, s, 0, toMake([]int{0}, []int{7}, 4, 0), api.EROOM)
	refused(t, s, 0, toMake([]int{0}, []int{7}, 1, 1), api.EROOM)
	checkUsed(t, s)
}

func TestUsedInNumbers(t *testing.T) {
	s := rich(t)
	for i, want := range map[int]int{
		0: 60, 3: 20, // rooms of which something came
		4: 0, 12: 0, 16: 0, // rooms of which nothing came: also with 90 in Used
		1: 0, 2: 0, 17: 0, 18: 0, 19: 0, // of other kinds: also with something that came of it (1, 2 and 18)
		5: 0, 8: 0, 32: 0, // empty, in a node
		40: 0, 95: 0, // no node's
		-1: 0, -2: 0, 96: 0, 97: 0, 1 << 32: 0, math.MinInt: 0, math.MaxInt: 0,
	} {
		if got := carve.Used(s, i); got != want {
			t.Errorf("P15.1: Used(%d): %d, want %d", i, got, want)
		}
	}
	checkUsed(t, s)
	for threads := 1; threads <= 4; threads++ {
		checkUsed(t, first(threads, 64))
		checkUsed(t, changed(t, first(threads, 64), func(s *state.State) { s.Things[0].Used = 64 }))
	}
	checkUsed(t, state.State{})
}

// A Room of which nothing came any more is as new: all its size may be used again, and its Used is then the cost alone.
func TestARoomOfWhichNothingCame(t *testing.T) {
	s := rich(t)
	refused(t, s, 0, toMake([]int{2, 0}, []int{5}, 1, 101), api.EROOM)
	for _, c := range [][3]int{{1, 100, 100}, {1, 11, 11}, {2, 4, 16}, {4, 0, 1}, {5, 0, 2}} {
		next := goes(t, s, 0, toMake([]int{2, 0}, []int{5}, c[0], c[1]), 12)
		if next.Things[9] != (thing.Thing{Type: 1, Size: 100, Used: c[2]}) || carve.Used(next, 16) != c[2] || next.Slots[5] != slot(c[0], 12, 7, 0, 16) {
			t.Errorf("P15.1: of a Room of which nothing came: %+v, then Used %d, %+v", next.Things[9], carve.Used(next, 16), next.Slots[5])
		}
	}
	full := changed(t, first(2, 64), func(s *state.State) { s.Things[0].Used = 64 })
	goes(t, full, 0, toMake([]int{0}, []int{5}, 1, 64), 4)
	refused(t, full, 0, toMake([]int{0}, []int{5}, 1, 65), api.EROOM)
}

// What came of a copy of a Room's capability came of that slot alone; and a copy that came of a slot counts for it.
func TestARoomInSeveralSlots(t *testing.T) {
	apart := changed(t, first(2, 64), func(s *state.State) {
		s.Things[0].Used, s.Things[4] = 30, thing.Thing{Type: 1, Size: 30}
		s.Slots[2], s.Slots[12] = slot(1, 4, 7, 0, 0), slot(1, 0, 2, 0, -1)
	})
	if a, b := carve.Used(apart, 0), carve.Used(apart, 12); a != 30 || b != 0 {
		t.Errorf("P15.1: Used of two slots with one Room: %d, %d", a, b)
	}
	refused(t, apart, 0, toMake([]int{0}, []int{3}, 1, 35), api.EROOM)
	if next := goes(t, apart, 1, toMake([]int{4}, []int{3}, 1, 64), 5); next.Things[0].Used != 64 || next.Slots[11] != slot(1, 5, 7, 0, 12) {
		t.Errorf("P15.1: of the other slot: %+v, %+v", next.Things[0], next.Slots[11])
	}
	copied := changed(t, first(2, 64), func(s *state.State) { s.Things[0].Used, s.Slots[12] = 30, slot(1, 0, 3, 0, 0) })
	if a, b := carve.Used(copied, 0), carve.Used(copied, 12); a != 30 || b != 0 {
		t.Errorf("P15.1: Used of a Room's slot and one that came of it: %d, %d", a, b)
	}
	checkUsed(t, apart)
	checkUsed(t, copied)
}

// What came through others counts no other than what came straight; and what came of others not at all.
func TestWhatCameOfTheSlotAlone(t *testing.T) {
	s := goes(t, first(1, 64), 0, toMake([]int{0}, []int{2}, 1, 40), 3)
	s = goes(t, s, 0, toMake([]int{2}, []int{3}, 1, 30), 4)
	s = goes(t, s, 0, toMake([]int{3}, []int{4}, 1, 20), 5)
	for i, want := range []int{40, 0, 30, 20, 0, 0} {
		if got := carve.Used(s, i); got != want {
			t.Errorf("P15.1: Used(%d) of rooms in a row: %d, want %d", i, got, want)
		}
	}
	refused(t, s, 0, toMake([]int{3}, []int{5}, 1, 11), api.EROOM)
	refused(t, s, 0, toMake([]int{2}, []int{5}, 1, 11), api.EROOM)
	refused(t, s, 0, toMake([]int{0}, []int{5}, 1, 25), api.EROOM)
	s = goes(t, s, 0, toMake([]int{4}, []int{5}, 1, 20), 6)
	s = goes(t, s, 0, toMake([]int{3}, []int{6}, 1, 10), 7)
	checkUsed(t, s)
}

// nodesAt is a state of one thread that has these nodes, each in a slot of its root, behind the first two.
func nodesAt(t *testing.T, slots int, l ...[2]int) state.State {
	t.Helper()
	s, _ := state.New(geo.Geo{Threads: 1, Slots: slots, Things: 20}, 64)
	for i, x := range l {
		s.Things[3+i] = thing.Thing{Type: 2, Bits: x[0], Base: x[1]}
		s.Slots[2+i] = slot(2, 3+i, 7, 0, -1)
	}
	return fine(t, s)
}

// A Node stands at the least place that has slots enough; where there is none, other kinds are made all the same.
func TestGaps(t *testing.T) {
	for _, c := range []struct {
		s     state.State
		bases [5]int // by bits; -1: no gap
	}{
		{nodesAt(t, 8), [5]int{0, -1, -1, -1, -1}},
		{nodesAt(t, 16), [5]int{0, 8, 8, 8, -1}},
		{nodesAt(t, 24), [5]int{0, 8, 8, 8, 8}},
		{nodesAt(t, 16, [2]int{1, 14}), [5]int{0, 8, 8, -1, -1}},
		{nodesAt(t, 16, [2]int{1, 9}), [5]int{0, 11, 11, -1, -1}},
		{nodesAt(t, 32, [2]int{1, 9}), [5]int{0, 11, 11, 11, 11}},
		{nodesAt(t, 32, [2]int{1, 11}, [2]int{1, 18}), [5]int{0, 8, 13, 20, -1}},
		{nodesAt(t, 32, [2]int{4, 8}, [2]int{3, 24}), [5]int{0, -1, -1, -1, -1}},
		{nodesAt(t, 32, [2]int{4, 9}, [2]int{2, 26}), [5]int{0, 30, -1, -1, -1}},
		{nodesAt(t, 32, [2]int{4, 9}, [2]int{2, 27}), [5]int{0, 25, -1, -1, -1}},
		{nodesAt(t, 96, [2]int{4, 8}, [2]int{4, 24}, [2]int{4, 40}, [2]int{4, 56}), [5]int{0, 72, 72, 72, 72}},
		{nodesAt(t, 96, [2]int{4, 8}, [2]int{4, 24}, [2]int{4, 40}, [2]int{4, 56}, [2]int{3, 72}), [5]int{0, 80, 80, 80, 80}},
	} {
		n := slices.Index(c.s.Things, thing.Thing{})
		for bits := 1; bits <= 4; bits++ {
			x := toMake([]int{0}, []int{7}, 2, bits)
			if c.bases[bits] < 0 {
				refused(t, c.s, 0, x, api.EROOM)
				continue
			}
			if next := goes(t, c.s, 0, x, n); next.Things[n] != (thing.Thing{Type: 2, Bits: bits, Base: c.bases[bits]}) {
				t.Errorf("P15.1: a node of %d bits: %+v, want it at %d, of %s", bits, next.Things[n], c.bases[bits], tell(c.s))
			}
		}
		for _, kind := range []int{1, 3, 4, 5} {
			for _, size := range []int{1, 4, 64} {
				if next := goes(t, c.s, 0, toMake([]int{0}, []int{7}, kind, size), n); next.Things[n].Base != 0 {
					t.Errorf("P15.1: kind %d has a Base: %+v", kind, next.Things[n])
				}
			}
		}
	}
}

// The number is the least that is not there: also 0, 1, and one between others; where none is left, nothing is made of any kind.
func TestNumbers(t *testing.T) {
	full := func(things int) state.State {
		s, _ := state.New(geo.Geo{Threads: 1, Slots: 96, Things: things}, 64)
		s.Things[3], s.Slots[2] = thing.Thing{Type: 2, Bits: 4, Base: 8}, slot(2, 3, 7, 0, 0)
		s.Things[4], s.Slots[3] = thing.Thing{Type: 2, Bits: 4, Base: 24}, slot(2, 4, 7, 0, 0)
		s.Things[5], s.Slots[4] = thing.Thing{Type: 2, Bits: 4, Base: 40}, slot(2, 5, 7, 0, 0)
		for i := 6; i < things; i++ {
			s.Things[i], s.Slots[2+i] = thing.Thing{Type: 4}, slot(4, i, 7, 0, 0)
		}
		return fine(t, s)
	}
	for _, things := range []int{6, 7, 20, 47, 48} {
		s := full(things)
		for kind := 1; kind <= 5; kind++ {
			refused(t, s, 0, toMake([]int{0}, []int{5}, kind, 1), api.EROOM)
		}
		for gone := 6; gone < things; gone++ {
			one := changed(t, s, func(s *state.State) { s.Things[gone], s.Slots[2+gone] = thing.Thing{}, bare() })
			last := changed(t, one, func(s *state.State) { s.Things[things-1], s.Slots[1+things] = thing.Thing{}, bare() })
			for kind := 1; kind <= 5; kind++ {
				goes(t, one, 0, toMake([]int{0}, []int{5}, kind, 1), gone)
				goes(t, last, 0, toMake([]int{0}, []int{5}, kind, 1), gone)
			}
		}
	}
	boxless := changed(t, full(6), func(s *state.State) { s.Things[1], s.Slots[1] = thing.Thing{}, bare() })
	goes(t, boxless, 0, toMake([]int{0}, []int{5}, 5, 0), 1)
	second := changed(t, full(7), func(s *state.State) {
		s.Things[6], s.Things[0] = thing.Thing{Type: 1, Size: 9}, thing.Thing{}
		s.Slots[0], s.Slots[8] = bare(), slot(1, 6, 7, 0, -1)
		for _, i := range []int{2, 3, 4} {
			s.Slots[i].Up = -1
		}
	})
	if next := goes(t, second, 0, toMake([]int{2, 0}, []int{0}, 1, 9), 0); next.Things[0] != (thing.Thing{Type: 1, Size: 9}) || next.Things[6].Used != 9 || next.Slots[0] != slot(1, 0, 7, 0, 8) {
		t.Errorf("P15.1: a Room made as thing 0: %+v of %+v in %+v", next.Things[0], next.Things[6], next.Slots[0])
	}
}

// Ways to the Room and to the place, through nodes and of either thread: nothing else is changed.
func TestWays(t *testing.T) {
	s := rich(t)
	for _, c := range []struct {
		thread, from, to int
		a, b             []int
	}{
		{0, 0, 5, []int{0}, []int{5}}, {0, 0, 7, []int{0}, []int{7}}, {0, 0, 20, []int{0}, []int{2, 4}}, {0, 0, 31, []int{0}, []int{2, 15}}, {0, 0, 33, []int{0}, []int{2, 2, 1}},
		{0, 16, 6, []int{2, 0}, []int{6}}, {0, 16, 21, []int{2, 0}, []int{2, 5}}, {0, 16, 32, []int{2, 0}, []int{2, 2, 0}},
		{1, 16, 8, []int{2, 0}, []int{0}}, {1, 16, 30, []int{2, 0}, []int{2, 14}}, {1, 16, 33, []int{2, 0}, []int{2, 2, 1}},
		{1, 12, 8, []int{4}, []int{0}}, {1, 12, 15, []int{4}, []int{7}}, {1, 12, 31, []int{4}, []int{2, 15}},
	} {
		next := goes(t, s, c.thread, toMake(c.a, c.b, 4, 7), 12)
		want := copyOf(s)
		want.Things[s.Slots[c.from].Cap.Thing].Used = map[int]int{0: 61, 16: 1, 12: 1}[c.from]
		want.Things[12], want.Slots[c.to] = thing.Thing{Type: 4}, slot(4, 12, 7, 0, c.from)
		if !state.Same(next, want) {
			t.Errorf("P15.1: by %d to %d: %s, want %s", c.a, c.b, tell(next), tell(want))
		}
	}
}

// What ways lead nowhere, or to a slot that is not as it must be, of A and of B.
func TestWaysThatAreRefused(t *testing.T) {
	s := rich(t)
	for _, c := range []struct {
		thread int
		l      []int
		a, b   api.Errno
	}{
		{0, []int{8}, 3, 3}, {0, []int{15}, 3, 3}, {0, []int{0, 0}, 3, 3}, {0, []int{1, 0}, 3, 3}, {0, []int{5, 0}, 3, 3}, {0, []int{2, 2, 2}, 3, 3}, {0, []int{2, 0, 0}, 3, 3}, {0, []int{2, 4, 0}, 3, 3},
		{1, []int{3, 0}, 3, 3}, {1, []int{3, 1}, 3, 3}, {1, []int{0, 0}, 3, 3}, {1, []int{9}, 3, 3},
		{0, []int{5}, 4, 0}, {0, []int{2, 4}, 4, 0}, {0, []int{2, 2, 1}, 4, 0}, {1, []int{0}, 4, 0}, {1, []int{2, 15}, 4, 0},
		{0, []int{1}, 7, 5}, {0, []int{2}, 7, 5}, {0, []int{2, 1}, 7, 5}, {0, []int{2, 2}, 7, 5}, {0, []int{2, 3}, 7, 5}, {1, []int{1}, 7, 5}, {1, []int{3}, 7, 5},
		{0, []int{4}, 6, 5}, {0, []int{0}, 0, 5}, {0, []int{3}, 8, 5}, {0, []int{2, 0}, 0, 5}, {1, []int{4}, 0, 5}, {1, []int{2, 0}, 0, 5},
	} {
		room := []int{2, 0}
		if _, r := check(t, s, c.thread, toMake(c.l, []int{6}, 4, 0)); r.Err != c.a {
			t.Errorf("P15.1: by %d of thread %d: %d, want %d", c.l, c.thread, r.Err, c.a)
		}
		if _, r := check(t, s, c.thread, toMake(room, c.l, 4, 0)); r.Err != c.b {
			t.Errorf("P15.1: to %d of thread %d: %d, want %d", c.l, c.thread, r.Err, c.b)
		}
	}
}

// Of two errors at once, the one that the chapter names first.
func TestWhichErrorIsFirst(t *testing.T) {
	s := rich(t)
	for _, c := range []struct {
		a, b       []int
		kind, size int
		want       api.Errno
	}{
		{[]int{8}, []int{1}, 4, 0, api.EPATH},        // no slot A; taken
		{[]int{8}, []int{5}, 1, 0, api.EPATH},        // no slot A; no size
		{[]int{8}, []int{5}, 1, 4096, api.EPATH},     // no slot A; much
		{[]int{5}, []int{9}, 4, 0, api.EEMPTY},       // nothing at A; no slot B
		{[]int{5}, []int{1}, 4, 0, api.EEMPTY},       // nothing at A; taken
		{[]int{5}, []int{5}, 2, 5, api.EEMPTY},       // nothing at A; no size
		{[]int{2, 3}, []int{5}, 4, 0, api.ETYPE},     // no Room's; no Write
		{[]int{1}, []int{9}, 4, 0, api.ETYPE},        // no Room's; no slot B
		{[]int{1}, []int{1}, 4, 0, api.ETYPE},        // no Room's; taken
		{[]int{1}, []int{5}, 1, 0, api.ETYPE},        // no Room's; no size
		{[]int{4}, []int{9}, 4, 0, api.ERIGHT},       // no Write; no slot B
		{[]int{4}, []int{1}, 4, 0, api.ERIGHT},       // no Write; taken
		{[]int{4}, []int{4}, 4, 0, api.ERIGHT},       // no Write; taken
		{[]int{4}, []int{5}, 1, 0, api.ERIGHT},       // no Write; no size
		{[]int{4}, []int{5}, 1, 11, api.ERIGHT},      // no Write; no room
		{[]int{0}, []int{9}, 1, 0, api.EPATH},        // no slot B; no size
		{[]int{0}, []int{9}, 1, 5, api.EPATH},        // no slot B; no room
		{[]int{0}, []int{1}, 1, 0, api.ETAKEN},       // taken; no size
		{[]int{0}, []int{1}, 2, 5, api.ETAKEN},       // taken; no size
		{[]int{0}, []int{0}, 1, 5, api.ETAKEN},       // taken; no room
		{[]int{3}, []int{3}, 1, 1, api.ETAKEN},       // taken; no room
		{[]int{3}, []int{5}, 1, 0, api.EARG},         // no size, where no room is left
		{[]int{3}, []int{5}, 2, 0, api.EARG},         // no size, and no gap of it
		{[]int{3}, []int{5}, 2, 5, api.EARG},         // no size, and no gap of it
		{[]int{0}, []int{5}, 2, 3, api.EROOM},        // no room, but a gap and a number
		{[]int{2, 0}, []int{5}, 2, 4096, api.EARG},   // no size
		{[]int{2, 0}, []int{5, 0}, 2, 9, api.EPATH},  // no slot B; no size
		{[]int{2, 0}, []int{2, 1}, 2, 9, api.ETAKEN}, // taken; no size
	} {
		refused(t, s, 0, toMake(c.a, c.b, c.kind, c.size), c.want)
	}
}

// The same where no number is left, and no gap: these two, and no room, are one error.
func TestWhichErrorIsFirstWhereNothingIsLeft(t *testing.T) {
	s, _ := state.New(geo.Geo{Threads: 1, Slots: 8, Things: 3}, 5)
	for _, c := range []struct {
		a, b, kind, size int
		want             api.Errno
	}{
		{0, 2, 4, 0, api.EROOM}, {0, 2, 5, 0, api.EROOM}, {0, 2, 3, 0, api.EROOM}, {0, 2, 1, 5, api.EROOM}, {0, 2, 2, 1, api.EROOM}, {0, 2, 2, 4, api.EROOM}, {0, 2, 1, 6, api.EROOM},
		{0, 2, 1, 0, api.EARG}, {0, 2, 2, 0, api.EARG}, {0, 2, 2, 5, api.EARG}, {0, 1, 4, 0, api.ETAKEN}, {0, 8, 4, 0, api.EPATH}, {1, 2, 4, 0, api.ETYPE}, {2, 2, 4, 0, api.EEMPTY}, {8, 2, 4, 0, api.EPATH},
	} {
		refused(t, s, 0, toMake([]int{c.a}, []int{c.b}, c.kind, c.size), c.want)
	}
	weak := changed(t, s, func(s *state.State) { s.Slots[0].Cap.Rights = 5 })
	refused(t, weak, 0, toMake([]int{0}, []int{2}, 4, 0), api.ERIGHT)
	refused(t, weak, 0, toMake([]int{0}, []int{8}, 4, 0), api.ERIGHT)
	refused(t, weak, 0, toMake([]int{0}, []int{1}, 4, 0), api.ERIGHT)
}

// Ahead of all: whatever else there is to be refused by, it is EARG.
func TestAheadOfAll(t *testing.T) {
	s := rich(t)
	for _, a := range [][]int{{0}, {3}, {4}, {1}, {5}, {8}, {2, 0}} {
		for _, b := range [][]int{{5}, {1}, {9}, {2, 4}, {2, 0}} {
			for _, c := range notGood(a, b) {
				for thread := -1; thread <= 2; thread++ {
					refused(t, s, thread, c, api.EARG)
				}
			}
			for _, thread := range append(far(), 2, 3, 4) {
				refused(t, s, thread, toMake(a, b, 4, 0), api.EARG)
				refused(t, s, thread, toMake(a, b, 1, 0), api.EARG)
			}
		}
	}
	for threads := 1; threads <= 4; threads++ {
		for thread := -2; thread < 6; thread++ {
			if thread < 0 || thread >= threads {
				refused(t, first(threads, 64), thread, toMake([]int{0}, []int{5}, 4, 0), api.EARG)
			}
		}
	}
}

// notGood gives calls by these two ways that are not Good, or of another Op.
func notGood(a, b []int) []call.Call {
	l := []call.Call{
		{}, {Op: 1}, {Op: 1, X: 4}, {Op: 1, A: way(a...), X: 4}, {Op: 1, B: way(b...), X: 4}, {Op: 1, A: way(a...), B: way(b...)}, {Op: 1, A: way(a...), B: way(b...), X: 4, W: 1},
		toMake(a, b, 6, 0), toMake(a, b, -1, 0), toMake(a, b, 4+1<<32, 0), toMake(a, b, 4, -1), toMake(a, b, 4, 4097), toMake(a, b, 1, math.MaxInt), toMake(a, b, 1, 1<<32+4),
		toMake(nil, b, 4, 0), toMake(a, nil, 4, 0), toMake([]int{}, b, 4, 0), toMake(a, []int{}, 4, 0), toMake([]int{0, 0, 0, 0}, b, 4, 0), toMake(a, []int{2, 2, 0, 0}, 4, 0), toMake([]int{16}, b, 4, 0), toMake(a, []int{-1}, 4, 0), toMake([]int{2, 16}, b, 4, 0), toMake(a, []int{1 << 32}, 4, 0),
		toMake(make([]int, 1<<16), b, 4, 0), toMake(a, make([]int, 1<<16), 4, 0),
		{Op: 2, A: way(a...), B: way(b...), X: 4}, {Op: 3, A: way(a...), B: way(b...), X: 4, Y: 1}, {Op: 4, A: way(a...), B: way(b...)}, {Op: 5, A: way(a...)}, {Op: 6, A: way(a...)}, {Op: 7, A: way(a...), B: way(b...), W: 4}, {Op: 7, A: way(a...)}, {Op: 8, A: way(a...), B: way(b...)}, {Op: 8, A: way(a...)},
		{Op: 9, A: way(a...)}, {Op: 10, A: way(a...)}, {Op: 11, A: way(a...), X: 3, W: 4}, {Op: 12, A: way(a...), X: 3}, {Op: 13, A: way(a...)},
	}
	for _, op := range []int{-1, 0, 2, 3, 4, 7, 8, 13, 14, 255, 257, 1 + 1<<32, math.MinInt + 1, math.MaxInt} {
		l = append(l, call.Call{Op: op, A: way(a...), B: way(b...), X: 4})
	}
	return l
}

// Each clause of what makes a state Good, broken by itself.
func TestStatesThatAreNotGood(t *testing.T) {
	for i, change := range []func(s *state.State){
		func(s *state.State) { s.Geo.Threads = 3 },
		func(s *state.State) { s.Geo.Threads = 0 },
		func(s *state.State) { s.Geo.Threads = 1 << 32 },
		func(s *state.State) { s.Geo.Slots = 88 },
		func(s *state.State) { s.Geo.Things++ },
		func(s *state.State) { s.Geo = geo.Geo{} },
		func(s *state.State) { s.Slots = s.Slots[:88] },
		func(s *state.State) { s.Slots = append(s.Slots, bare()) },
		func(s *state.State) { s.Slots = nil },
		func(s *state.State) { s.Things = s.Things[:19] },
		func(s *state.State) { s.Things = nil },
		func(s *state.State) { s.Things = make([]thing.Thing, 1<<12) },
		func(s *state.State) { s.Slots[6].Cap.Rights = 1 },
		func(s *state.State) { s.Slots[0].Cap.Rights = 8 },
		func(s *state.State) { s.Slots[0].Cap.Thing = 20 },
		func(s *state.State) { s.Slots[0].Cap.Thing = math.MaxInt },
		func(s *state.State) { s.Slots[0].Cap.Thing = -1 },
		func(s *state.State) { s.Slots[0].Cap.Thing = 12 },
		func(s *state.State) { s.Slots[0].Cap.Badge = 1 },
		func(s *state.State) { s.Slots[1].Cap.Type = 1 },
		func(s *state.State) { s.Slots[6].Up = 0 },
		func(s *state.State) { s.Slots[0].Up = 0 },
		func(s *state.State) { s.Slots[2].Up = 6 },
		func(s *state.State) { s.Slots[95] = slot(4, 11, 5, 0, -1) },
		func(s *state.State) { s.Things[0].Used = 65 },
		func(s *state.State) { s.Things[0].Used = -1 },
		func(s *state.State) { s.Things[0].Size = 4097 },
		func(s *state.State) { s.Things[0].Word = 1 },
		func(s *state.State) { s.Things[0] = thing.Thing{} },
		func(s *state.State) { s.Things[2] = thing.Thing{} },
		func(s *state.State) { s.Things[3].Base = 54 },
		func(s *state.State) { s.Things[4].Bits = 63 },
		func(s *state.State) { s.Things[4].Bits = -1 },
		func(s *state.State) { s.Things[7].Base = 31 },
		func(s *state.State) { s.Things[7].Base = 95 },
		func(s *state.State) { s.Things[12] = thing.Thing{Type: 4} },
		func(s *state.State) { s.Things[1] = thing.Thing{Type: 3, Full: true, From: 7} },
		func(s *state.State) { s.Slots[33] = slot(2, 4, 7, 0, 2) },
		func(s *state.State) { *s = state.State{} },
		func(s *state.State) { *s = state.State{Geo: geo.Plain()} },
	} {
		s := copyOf(rich(t))
		change(&s)
		if state.Good(s) {
			t.Errorf("change %d leaves the state Good", i)
			continue
		}
		for thread := -1; thread <= 3; thread++ {
			for _, c := range []call.Call{toMake([]int{0}, []int{5}, 4, 0), toMake([]int{1}, []int{5}, 4, 0), toMake([]int{2, 0}, []int{2, 4}, 2, 1), toMake([]int{8}, []int{1}, 1, 0), toMake([]int{4}, []int{0}, 4, 0), {}, {Op: 13, A: way(0)}} {
				refused(t, s, thread, c, api.EARG)
			}
		}
		checkUsed(t, s)
		for i := range 100 {
			if got := carve.Used(s, i); got != 0 {
				t.Errorf("P15.1: Used(%d): %d, of what is not Good: %s", i, got, tell(s))
			}
		}
	}
}
