package give_test

import (
	"math"
	"testing"

	"reeve/api"
	"reeve/call"
	"reeve/cap"
	"reeve/carve"
	"reeve/geo"
	"reeve/give"
	"reeve/path"
	"reeve/state"
	"reeve/thing"
)

func TestTheGivenNumbers(t *testing.T) {
	if api.Room != 1 || api.Node != 2 || api.Mail != 3 || api.Bell != 4 || api.Leaf != 5 || api.Read != 1 || api.All != 7 || api.MaxBadge != 65535 || api.MaxSlots != 96 || api.MaxThings != 48 {
		t.Errorf("the tests' numbers are not api's")
	}
	if api.EARG != 1 || api.EPATH != 3 || api.EEMPTY != 4 || api.ETAKEN != 5 || api.ETYPE != 7 {
		t.Errorf("the tests' errors are not api's")
	}
}

// rich has two threads. In thread 0's root (slots 0 to 7): room 0, box 1, node 4 (slots 16 to 31), bell 5, leaf 6, box 1 with badge 9 that came of slot 1, nothing at 6 and 7.
// In thread 1's root (slots 8 to 15): box 1 at 1, node 4 to be read alone at 2, node 7 (slots 32, 33) without Read at 3, room 8 without Write at 4, bell 5 without rights and with badge 65535 at 5, nothing at 0, 6 and 7.
// In node 4: box 1 with badge 9 that came of slot 5, leaf 6 without rights, node 7, node 9 (slots 34 to 37), five full boxes that hand on slots 3, 3, 2, 4 and nothing, bell 5 that came of slot 3, and one with badge 7 that came of that, nothing from 11 on.
// In node 7: node 11 (slots 40, 41), too deep to go on; nothing at 1. In node 9: box 1 that came of slot 9; nothing from 1 on. In node 11 nothing.
func rich(t *testing.T) state.State {
	t.Helper()
	s := first(2)
	s.Things[0].Used = 60
	for i, x := range map[int]thing.Thing{
		4: {Type: 2, Bits: 4, Base: 16}, 5: {Type: 4, Word: 8}, 6: {Type: 5, Data: [4]uint64{1, 2, 3, 4}}, 7: {Type: 2, Bits: 1, Base: 32},
		8: {Type: 1, Size: 40}, 9: {Type: 2, Bits: 2, Base: 34}, 11: {Type: 2, Bits: 1, Base: 40}, 10: boxOf(3), 12: boxOf(3), 13: boxOf(2), 14: boxOf(4), 15: boxOf(-1),
	} {
		s.Things[i] = x
	}
	for i, x := range map[int]state.Slot{
		2: slot(2, 4, 7, 0, 0), 3: slot(4, 5, 7, 0, 0), 4: slot(5, 6, 7, 0, 0), 5: slot(3, 1, 3, 9, 1),
		10: slot(2, 4, 1, 0, 2), 11: slot(2, 7, 6, 0, 18), 12: slot(1, 8, 5, 0, 0), 13: slot(4, 5, 0, 65535, 3),
		16: slot(3, 1, 1, 9, 5), 17: slot(5, 6, 0, 0, 4), 18: slot(2, 7, 7, 0, 0), 19: slot(2, 9, 7, 0, 0),
		20: slot(3, 10, 7, 0, 0), 21: slot(3, 12, 7, 0, 0), 22: slot(3, 13, 7, 0, 0), 23: slot(3, 14, 7, 0, 0), 24: slot(3, 15, 7, 0, 0),
		25: slot(4, 5, 3, 0, 3), 26: slot(4, 5, 1, 7, 25), 32: slot(2, 11, 7, 0, 0), 34: slot(3, 1, 7, 0, 9),
	} {
		s.Slots[i] = x
	}
	return fine(t, s)
}

// boxOf is a full box that hands on what is in a slot; of -1: a word alone.
func boxOf(slot int) thing.Thing {
	return thing.Thing{Type: 3, Full: true, Word: 77, Badge: 5, From: slot + 1}
}

// fine holds a state of the tests to be one that may be.
func fine(t *testing.T, s state.State) state.State {
	t.Helper()
	if !state.Good(s) {
		t.Fatalf("the tests' state may not be: %s", tell(s))
	}
	return s
}

// changed is a state, changed in some places, which must be one that may be.
func changed(t *testing.T, s state.State, change func(s *state.State)) state.State {
	t.Helper()
	s = copyOf(s)
	change(&s)
	return fine(t, s)
}

// refused holds a call that must be refused against its error, in numbers: beside it nothing is told, and the state is as it was.
func refused(t *testing.T, s state.State, thread int, c call.Call, want api.Errno) {
	t.Helper()
	next, r := check(t, s, thread, c)
	if r.Err != want || r.W != 0 || r.N != 0 || !state.Same(next, s) {
		t.Errorf("P16.1: Do(%d, %s): %+v, want the error %d alone, and %s as it was", thread, short(c), r, want, tell(s))
	}
}

// goes holds a call that must go well: its answer tells nothing.
func goes(t *testing.T, s state.State, thread int, c call.Call) state.State {
	t.Helper()
	next, r := check(t, s, thread, c)
	if r.Err != 0 || r.W != 0 || r.N != 0 {
		t.Errorf("P16.1: Do(%d, %s): %+v, want nothing, of %s", thread, short(c), r, tell(s))
	}
	return next
}

// alike holds a state behind a call against the one ahead of it, changed in some places.
func alike(t *testing.T, got, was state.State, change func(s *state.State)) {
	t.Helper()
	was = copyOf(was)
	change(&was)
	if !state.Same(got, was) {
		t.Errorf("P16.1: %s, want %s", tell(got), tell(was))
	}
}

func TestTheExample(t *testing.T) {
	s, _ := state.New(geo.Plain(), 64)
	next, r := give.Do(s, 0, call.Call{Op: 2, A: path.Path{L: []int{1}}, B: path.Path{L: []int{2}}, X: api.Read})
	if r != (state.Reply{}) {
		t.Errorf("P16.1: copy 1 to 2 with r: %+v", r)
	}
	if next.Slots[2] != (state.Slot{Cap: cap.Cap{Type: api.Mail, Thing: 1, Rights: api.Read}, Up: 1}) || next.Slots[1] != s.Slots[1] {
		t.Errorf("P16.1: copy 1 to 2 with r: %+v of %+v", next.Slots[2], next.Slots[1])
	}
}

// Ways through nodes, of either thread: nothing but B's slot is changed.
func TestCopies(t *testing.T) {
	s := rich(t)
	for _, c := range []struct {
		thread int
		a, b   []int
		x, to  int
		want   state.Slot
	}{
		{0, []int{1}, []int{6}, 7, 6, slot(3, 1, 7, 0, 1)}, {0, []int{1}, []int{7}, 0, 7, slot(3, 1, 0, 0, 1)}, {0, []int{1}, []int{2, 11}, 5, 27, slot(3, 1, 5, 0, 1)}, {0, []int{1}, []int{2, 2, 1}, 2, 33, slot(3, 1, 2, 0, 1)}, {0, []int{1}, []int{2, 3, 3}, 4, 37, slot(3, 1, 4, 0, 1)},
		{0, []int{5}, []int{6}, 7, 6, slot(3, 1, 3, 9, 5)}, {0, []int{5}, []int{6}, 5, 6, slot(3, 1, 1, 9, 5)}, {0, []int{5}, []int{6}, 4, 6, slot(3, 1, 0, 9, 5)}, {0, []int{2, 0}, []int{6}, 3, 6, slot(3, 1, 1, 9, 16)},
		{0, []int{3}, []int{6}, 6, 6, slot(4, 5, 6, 0, 3)}, {0, []int{2, 10}, []int{6}, 7, 6, slot(4, 5, 1, 7, 26)}, {1, []int{5}, []int{0}, 7, 8, slot(4, 5, 0, 65535, 13)}, {1, []int{5}, []int{2, 15}, 0, 31, slot(4, 5, 0, 65535, 13)},
		{0, []int{4}, []int{2, 12}, 1, 28, slot(5, 6, 1, 0, 4)}, {0, []int{2, 1}, []int{6}, 7, 6, slot(5, 6, 0, 0, 17)}, {0, []int{2, 3, 0}, []int{2, 3, 1}, 7, 35, slot(3, 1, 7, 0, 34)},
		{0, []int{2}, []int{6}, 7, 6, slot(2, 4, 7, 0, 2)}, {0, []int{2, 2}, []int{6}, 6, 6, slot(2, 7, 6, 0, 18)}, {0, []int{2, 2}, []int{2, 11}, 3, 27, slot(2, 7, 3, 0, 18)}, {0, []int{2, 2}, []int{2, 3, 2}, 7, 36, slot(2, 7, 7, 0, 18)}, {0, []int{2, 2, 0}, []int{2, 2, 1}, 1, 33, slot(2, 11, 1, 0, 32)},
		{1, []int{3}, []int{2, 11}, 7, 27, slot(2, 7, 6, 0, 11)}, {1, []int{2, 2}, []int{2, 3, 1}, 5, 35, slot(2, 7, 5, 0, 18)}, {1, []int{2}, []int{7}, 7, 15, slot(2, 4, 1, 0, 10)}, {1, []int{1}, []int{2, 13}, 7, 29, slot(3, 1, 7, 0, 9)},
	} {
		next := goes(t, s, c.thread, toCopy(c.a, c.b, c.x))
		alike(t, next, s, func(s *state.State) { s.Slots[c.to] = c.want })
	}
}

// kindAt is the first state with a capability of a kind in slot 5, and with one that came of it in slot 6.
func kindAt(t *testing.T, kind, rights, badge int) state.State {
	t.Helper()
	return changed(t, first(2), func(s *state.State) {
		s.Things[4] = []thing.Thing{{}, {Type: 1, Size: 9}, {Type: 2, Bits: 2, Base: 16}, {Type: 3}, {Type: 4, Word: 3}, {Type: 5}}[kind]
		s.Slots[5], s.Slots[6] = slot(kind, 4, rights, badge, 0), slot(kind, 4, 0, badge, 5)
	})
}

// All rights cut by all rights: of what is no Room's.
func TestCopiesOfEachKind(t *testing.T) {
	for kind := 1; kind <= 5; kind++ {
		for rights := range 8 {
			s := kindAt(t, kind, rights, 0)
			for x := range 8 {
				c := toCopy([]int{5}, []int{7}, x)
				if kind == 1 {
					refused(t, s, 0, c, api.ETYPE)
					continue
				}
				alike(t, goes(t, s, 0, c), s, func(s *state.State) { s.Slots[7] = slot(kind, 4, rights&x, 0, 5) })
			}
			for _, x := range append(far(), -7, 8, 9, 15, 16, 7+1<<8) {
				refused(t, s, 0, toCopy([]int{5}, []int{7}, x), api.EARG)
				refused(t, s, 0, toMint([]int{5}, []int{7}, x, 1), api.EARG)
			}
		}
	}
}

// A badge is given along with a copy, and none with what has none.
func TestCopiesWithBadges(t *testing.T) {
	for _, kind := range []int{3, 4} {
		for _, badge := range []int{0, 1, 2, 255, 256, 65534, 65535} {
			s := kindAt(t, kind, 7, badge)
			for x := range 8 {
				alike(t, goes(t, s, 0, toCopy([]int{5}, []int{7}, x)), s, func(s *state.State) { s.Slots[7] = slot(kind, 4, x, badge, 5) })
			}
		}
	}
}

func TestMints(t *testing.T) {
	for _, kind := range []int{3, 4} {
		for rights := range 8 {
			s := kindAt(t, kind, rights, 0)
			for x := range 8 {
				for _, badge := range []int{1, 2, 255, 256, 65534, 65535} {
					next := goes(t, s, 0, toMint([]int{5}, []int{7}, x, badge))
					alike(t, next, s, func(s *state.State) { s.Slots[7] = slot(kind, 4, rights&x, badge, 5) })
				}
			}
		}
	}
	s := rich(t)
	alike(t, goes(t, s, 1, toMint([]int{1}, []int{2, 3, 1}, 6, 9)), s, func(s *state.State) { s.Slots[35] = slot(3, 1, 6, 9, 9) })
	alike(t, goes(t, s, 0, toMint([]int{2, 3, 0}, []int{2, 2, 1}, 1, 65535)), s, func(s *state.State) { s.Slots[33] = slot(3, 1, 1, 65535, 34) })
	alike(t, goes(t, s, 0, toMint([]int{2, 9}, []int{7}, 7, 1)), s, func(s *state.State) { s.Slots[7] = slot(4, 5, 3, 1, 25) })
}

// A badge that may not be is no call: so it is told ahead of all that A leads to.
func TestBadgesThatMayNotBe(t *testing.T) {
	for kind := 1; kind <= 5; kind++ {
		s := kindAt(t, kind, 7, 0)
		for _, badge := range append(far(), 0, 65536, 65537) {
			if badge > 0 && badge < 65536 {
				continue
			}
			for _, ways := range [][2]int{{5, 7}, {0, 7}, {5, 5}, {7, 7}, {9, 9}} {
				refused(t, s, 0, toMint([]int{ways[0]}, []int{ways[1]}, 7, badge), api.EARG)
			}
		}
	}
}

// What Stamp refuses, whatever B leads to: a badge already, or a kind that bears none.
func TestMintsThatAreRefused(t *testing.T) {
	for _, b := range [][]int{{7}, {1}, {5}, {8}, {1, 0}, {7, 0}, {5, 0}} {
		for x := range 8 {
			for _, y := range []int{1, 9, 65535} {
				for _, kind := range []int{1, 2, 5} {
					refused(t, kindAt(t, kind, 7, 0), 0, toMint([]int{5}, b, x, y), api.ETYPE)
					refused(t, kindAt(t, kind, 0, 0), 0, toMint([]int{5}, b, x, y), api.ETYPE)
				}
				for _, kind := range []int{3, 4} {
					for _, badge := range []int{1, 9, 65535} {
						refused(t, kindAt(t, kind, 7, badge), 0, toMint([]int{5}, b, x, y), api.ETAKEN)
					}
				}
			}
		}
	}
	s := rich(t)
	refused(t, s, 0, toMint([]int{2, 0}, []int{6}, 7, 9), api.ETAKEN)
	refused(t, s, 1, toMint([]int{5}, []int{6}, 7, 1), api.ETAKEN)
	refused(t, s, 0, toMint([]int{0}, []int{6}, 7, 9), api.ETYPE)
	refused(t, s, 0, toMint([]int{2}, []int{2, 12}, 7, 9), api.ETYPE)
}

// Whatever it is, of whatever rights: all of it is in B's slot then, what came of it came of that, and A's is as any empty one.
func TestMovesOfEachKind(t *testing.T) {
	for kind := 1; kind <= 5; kind++ {
		for rights := range 8 {
			s := kindAt(t, kind, rights, 0)
			for _, from := range []int{5, 6} {
				alike(t, goes(t, s, 0, toMove([]int{from}, []int{7})), s, func(s *state.State) {
					s.Slots[7], s.Slots[from] = s.Slots[from], bare()
					if from == 5 {
						s.Slots[6].Up = 7
					}
				})
			}
		}
	}
	for _, badge := range []int{1, 65535} {
		for _, kind := range []int{3, 4} {
			next := goes(t, kindAt(t, kind, 2, badge), 0, toMove([]int{5}, []int{7}))
			if next.Slots[7] != slot(kind, 4, 2, badge, 0) || next.Slots[6] != slot(kind, 4, 0, badge, 7) || next.Slots[5] != bare() {
				t.Errorf("P16.1: move of what has badge %d: %+v", badge, next.Slots[5:8])
			}
		}
	}
}

// What came of it, straight, but not through others; boxes that hand on just that slot; what it came of: by ways of either thread.
func TestMovesTakeAlong(t *testing.T) {
	s := rich(t)
	for _, c := range []struct {
		thread, from, to int
		a, b             []int
		kids, boxes      []int
	}{
		{0, 3, 6, []int{3}, []int{6}, []int{13, 25}, []int{10, 12}}, {0, 3, 7, []int{3}, []int{7}, []int{13, 25}, []int{10, 12}}, {0, 3, 33, []int{3}, []int{2, 2, 1}, []int{13, 25}, []int{10, 12}}, {0, 3, 37, []int{3}, []int{2, 3, 3}, []int{13, 25}, []int{10, 12}},
		{0, 2, 6, []int{2}, []int{6}, []int{10}, []int{13}}, {0, 4, 27, []int{4}, []int{2, 11}, []int{17}, []int{14}}, {0, 25, 6, []int{2, 9}, []int{6}, []int{26}, nil}, {0, 26, 6, []int{2, 10}, []int{6}, nil, nil},
		{0, 0, 6, []int{0}, []int{6}, []int{2, 3, 4, 12, 18, 19, 20, 21, 22, 23, 24, 32}, nil}, {0, 1, 31, []int{1}, []int{2, 15}, []int{5, 9}, nil}, {0, 5, 33, []int{5}, []int{2, 2, 1}, []int{16}, nil},
		{1, 9, 8, []int{1}, []int{0}, []int{34}, nil}, {1, 9, 35, []int{1}, []int{2, 3, 1}, []int{34}, nil}, {1, 10, 14, []int{2}, []int{6}, nil, nil}, {1, 12, 36, []int{4}, []int{2, 3, 2}, nil, nil}, {1, 13, 15, []int{5}, []int{7}, nil, nil},
		{1, 11, 27, []int{3}, []int{2, 11}, nil, nil}, {1, 18, 14, []int{2, 2}, []int{6}, []int{11}, nil}, {0, 18, 35, []int{2, 2}, []int{2, 3, 1}, []int{11}, nil}, {0, 19, 33, []int{2, 3}, []int{2, 2, 1}, nil, nil}, {0, 32, 33, []int{2, 2, 0}, []int{2, 2, 1}, nil, nil}, {0, 24, 6, []int{2, 8}, []int{6}, nil, nil},
	} {
		alike(t, goes(t, s, c.thread, toMove(c.a, c.b)), s, func(s *state.State) {
			s.Slots[c.to], s.Slots[c.from] = s.Slots[c.from], bare()
			for _, i := range c.kids {
				s.Slots[i].Up = c.to
			}
			for _, i := range c.boxes {
				s.Things[i].From = c.to + 1
			}
		})
	}
}

// Slots 0 and 95, the first and the last that there may be: From 0 tells of none of them.
func TestBoxesThatHandOnTheFirstSlotAndTheLast(t *testing.T) {
	s := changed(t, first(1), func(s *state.State) {
		s.Things[3], s.Things[4], s.Things[5], s.Things[6] = thing.Thing{Type: 2, Bits: 4, Base: 80}, boxOf(0), boxOf(-1), boxOf(1)
		s.Slots[2], s.Slots[3], s.Slots[4], s.Slots[5] = slot(2, 3, 7, 0, 0), slot(3, 4, 7, 0, 0), slot(3, 5, 7, 0, 0), slot(3, 6, 7, 0, 0)
	})
	froms := func(s state.State, at1, at4, at5, at6 int) {
		t.Helper()
		if s.Things[1].From != at1 || s.Things[4].From != at4 || s.Things[5].From != at5 || s.Things[6].From != at6 {
			t.Errorf("P16.1: From %d, %d, %d, %d, want %d, %d, %d, %d", s.Things[1].From, s.Things[4].From, s.Things[5].From, s.Things[6].From, at1, at4, at5, at6)
		}
	}
	last := goes(t, s, 0, toMove([]int{0}, []int{2, 15}))
	froms(last, 0, 96, 0, 2)
	next := goes(t, last, 0, toMove([]int{1}, []int{0}))
	froms(next, 0, 96, 0, 1)
	next = goes(t, next, 0, toMove([]int{2, 15}, []int{1}))
	froms(next, 0, 2, 0, 1)
	// what the box hands on may be its own capability, or one that another box hands on, too.
	own := changed(t, s, func(s *state.State) { s.Things[4].From, s.Things[5].From = 4, 4 })
	froms(goes(t, own, 0, toMove([]int{3}, []int{7})), 0, 8, 8, 2)
	froms(goes(t, own, 0, toMove([]int{4}, []int{7})), 0, 4, 4, 2)
	froms(goes(t, own, 0, toCopy([]int{3}, []int{7}, 7)), 0, 4, 4, 2)
}

// A node never comes to stand in itself, straight or through others; elsewhere it may.
func TestRings(t *testing.T) {
	s := rich(t)
	for _, c := range []struct {
		thread int
		a, b   []int
		ring   bool
	}{
		{0, []int{2}, []int{2, 11}, true}, {0, []int{2}, []int{2, 15}, true}, {0, []int{2}, []int{2, 2, 1}, true}, {0, []int{2}, []int{2, 3, 1}, true}, {0, []int{2}, []int{2, 3, 3}, true}, {0, []int{2}, []int{6}, false}, {0, []int{2}, []int{7}, false},
		{0, []int{2, 2}, []int{2, 2, 1}, true}, {0, []int{2, 2}, []int{2, 11}, false}, {0, []int{2, 2}, []int{2, 3, 1}, false}, {0, []int{2, 2}, []int{6}, false},
		{0, []int{2, 3}, []int{2, 3, 1}, true}, {0, []int{2, 3}, []int{2, 3, 3}, true}, {0, []int{2, 3}, []int{2, 2, 1}, false}, {0, []int{2, 3}, []int{2, 12}, false}, {0, []int{2, 3}, []int{7}, false},
		{0, []int{2, 2, 0}, []int{2, 2, 1}, false}, {0, []int{2, 2, 0}, []int{2, 3, 1}, false}, {0, []int{2, 2, 0}, []int{6}, false},
		{1, []int{2}, []int{2, 11}, true}, {1, []int{2}, []int{2, 2, 1}, true}, {1, []int{2}, []int{0}, false}, {1, []int{3}, []int{2, 2, 1}, true}, {1, []int{3}, []int{2, 3, 1}, false}, {1, []int{3}, []int{0}, false},
	} {
		for x := range 8 {
			if c.ring {
				refused(t, s, c.thread, toCopy(c.a, c.b, x), api.EARG)
			} else {
				goes(t, s, c.thread, toCopy(c.a, c.b, x))
			}
		}
		if c.ring {
			refused(t, s, c.thread, toMove(c.a, c.b), api.EARG)
		} else {
			goes(t, s, c.thread, toMove(c.a, c.b))
		}
	}
	// through three nodes: 7 has 11, and that one is at hand.
	near := goes(t, s, 0, toMove([]int{2, 2}, []int{6}))
	refused(t, near, 0, toMove([]int{6}, []int{6, 0, 0}), api.EARG)
	refused(t, near, 0, toCopy([]int{6}, []int{6, 0, 1}, 1), api.EARG)
	goes(t, near, 0, toMove([]int{2}, []int{6, 0, 1}))
	refused(t, goes(t, near, 0, toCopy([]int{6, 0}, []int{2, 11}, 3)), 0, toMove([]int{2}, []int{6, 0, 1}), api.EARG)
}

// A capability of a thread's own root: in no slot of that root, but elsewhere.
func TestRoots(t *testing.T) {
	s := changed(t, rich(t), func(s *state.State) { s.Slots[6], s.Slots[8] = slot(2, 3, 7, 0, -1), slot(2, 7, 7, 0, -1) })
	refused(t, s, 0, toMove([]int{6}, []int{6, 6}), api.EARG)
	refused(t, s, 0, toCopy([]int{6}, []int{6, 7}, 1), api.EARG)
	refused(t, s, 0, toMove([]int{6}, []int{6, 0, 1}), api.EARG)
	refused(t, s, 0, toMove([]int{6}, []int{2, 11}), api.EARG)
	refused(t, s, 0, toMove([]int{6}, []int{2, 3, 1}), api.EARG)
	alike(t, goes(t, s, 0, toMove([]int{6}, []int{7})), s, func(s *state.State) { s.Slots[6], s.Slots[7] = bare(), s.Slots[6] })
	alike(t, goes(t, s, 0, toMove([]int{6, 1}, []int{6, 7})), s, func(s *state.State) { s.Slots[9], s.Slots[15], s.Slots[34].Up = bare(), s.Slots[9], 15 })
}

// A and B one slot, or two ways to one: something is in it, or nothing.
func TestOneSlot(t *testing.T) {
	s := rich(t)
	for _, l := range [][]int{{0}, {1}, {2}, {3}, {4}, {5}, {2, 0}, {2, 2}, {2, 2, 0}} {
		refused(t, s, 0, toMove(l, l), api.ETAKEN)
		refused(t, s, 0, toCopy(l, l, 7), api.ETAKEN)
	}
	for _, l := range [][]int{{6}, {7}, {2, 11}, {2, 2, 1}} {
		for _, c := range []call.Call{toMove(l, l), toCopy(l, l, 7), toMint(l, l, 7, 1)} {
			refused(t, s, 0, c, api.EEMPTY)
		}
	}
	refused(t, s, 0, toMint([]int{1}, []int{1}, 7, 1), api.ETAKEN)
	refused(t, s, 0, toMint([]int{2}, []int{2}, 7, 1), api.ETYPE)
	two := goes(t, s, 0, toCopy([]int{2}, []int{6}, 1))
	refused(t, two, 0, toMove([]int{2, 1}, []int{6, 1}), api.ETAKEN)
	refused(t, two, 0, toMove([]int{2, 11}, []int{6, 11}), api.EEMPTY)
	alike(t, goes(t, two, 0, toMove([]int{2, 1}, []int{6, 11})), two, func(s *state.State) { s.Slots[17], s.Slots[27] = bare(), s.Slots[17] })
}

// There and back again: as it was. And over all slots that are free, one by one.
func TestMovesBack(t *testing.T) {
	s := rich(t)
	for _, a := range [][]int{{0}, {1}, {3}, {4}, {5}, {2, 0}, {2, 2}, {2, 3}, {2, 4}, {2, 10}, {2, 2, 0}} {
		for _, b := range [][]int{{6}, {7}, {2, 11}, {2, 15}} {
			next := goes(t, goes(t, s, 0, toMove(a, b)), 0, toMove(b, a))
			alike(t, next, s, func(s *state.State) {})
		}
	}
	next := goes(t, s, 0, toMove([]int{3}, []int{6}))
	for step := 11; step < 16; step++ {
		next = goes(t, next, 0, toMove([]int{6}, []int{2, step}))
		next = goes(t, next, 0, toMove([]int{2, step}, []int{6}))
	}
	alike(t, goes(t, next, 0, toMove([]int{6}, []int{3})), s, func(s *state.State) {})
}

// What is used of a Room is so of the slot to which it was moved, too: what came of it came along.
func TestAMovedRoom(t *testing.T) {
	s := rich(t)
	next := goes(t, s, 0, toMove([]int{0}, []int{2, 2, 1}))
	if a, b, c := carve.Used(s, 0), carve.Used(next, 33), carve.Used(next, 0); a != 60 || b != 60 || c != 0 {
		t.Errorf("P16.1: Used of a moved Room: %d, then %d, and %d in the slot where it was", a, b, c)
	}
	next = goes(t, next, 0, toMove([]int{4}, []int{0}))
	if next.Slots[0] != slot(5, 6, 7, 0, 33) || next.Slots[17] != slot(5, 6, 0, 0, 0) {
		t.Errorf("P16.1: in the slot where the Room was: %+v, and of that %+v", next.Slots[0], next.Slots[17])
	}
}

// What ways lead nowhere, or to a slot that is not as it must be, of A and of B.
func TestWaysThatAreRefused(t *testing.T) {
	s := rich(t)
	for _, c := range []struct {
		thread int
		l      []int
		a, b   api.Errno
	}{
		{0, []int{8}, 3, 3}, {0, []int{15}, 3, 3}, {0, []int{0, 0}, 3, 3}, {0, []int{1, 0}, 3, 3}, {0, []int{6, 0}, 3, 3}, {0, []int{2, 2, 2}, 3, 3}, {0, []int{2, 0, 0}, 3, 3}, {0, []int{2, 11, 0}, 3, 3}, {0, []int{2, 3, 4}, 3, 3},
		{1, []int{3, 0}, 3, 3}, {1, []int{3, 1}, 3, 3}, {1, []int{0, 0}, 3, 3}, {1, []int{9}, 3, 3},
		{0, []int{6}, 4, 0}, {0, []int{7}, 4, 0}, {0, []int{2, 11}, 4, 0}, {0, []int{2, 2, 1}, 4, 0}, {1, []int{0}, 4, 0}, {1, []int{2, 15}, 4, 0}, {1, []int{2, 3, 3}, 4, 0},
		{0, []int{1}, 0, 5}, {0, []int{3}, 0, 5}, {0, []int{0}, 0, 5}, {0, []int{2}, 0, 5}, {0, []int{2, 1}, 0, 5}, {0, []int{2, 2, 0}, 0, 5}, {1, []int{1}, 0, 5}, {1, []int{3}, 0, 5}, {1, []int{2, 0}, 0, 5},
	} {
		for _, x := range []call.Call{toCopy(c.l, []int{7}, 7), toMint(c.l, []int{7}, 7, 1), toMove(c.l, []int{7})} {
			if _, r := check(t, s, c.thread, x); (c.a != 0 || x.Op == 4) && r.Err != c.a {
				t.Errorf("P16.1: Do(%d, %s): %d, want %d", c.thread, short(x), r.Err, c.a)
			}
		}
		for _, x := range []call.Call{toCopy([]int{1}, c.l, 7), toMint([]int{1}, c.l, 7, 1), toMove([]int{1}, c.l)} {
			if _, r := check(t, s, c.thread, x); r.Err != c.b {
				t.Errorf("P16.1: Do(%d, %s): %d, want %d", c.thread, short(x), r.Err, c.b)
			}
		}
	}
}

// Of two errors at once, the one that the chapter names first.
func TestWhichErrorIsFirst(t *testing.T) {
	s := rich(t)
	for _, c := range []struct {
		name                  string
		a, b                  []int
		copied, minted, moved api.Errno
	}{
		{"no slot A; no slot B", []int{8}, []int{9}, 3, 3, 3},
		{"no slot A; taken", []int{8}, []int{1}, 3, 3, 3},
		{"no slot A; taken by a way", []int{1, 0}, []int{2, 0}, 3, 3, 3},
		{"nothing at A; no slot B", []int{6}, []int{8}, 4, 4, 4},
		{"nothing at A; taken", []int{6}, []int{1}, 4, 4, 4},
		{"nothing at A; taken, deeper", []int{2, 2, 1}, []int{2, 2, 0}, 4, 4, 4},
		{"a leaf's; no slot B", []int{4}, []int{8}, 3, 7, 3},
		{"a leaf's; taken", []int{4}, []int{1}, 5, 7, 5},
		{"a Room's; no slot B", []int{0}, []int{8}, 3, 7, 3},
		{"a Room's; no slot B, deeper", []int{0}, []int{2, 2, 2}, 3, 7, 3},
		{"a Room's; taken", []int{0}, []int{1}, 5, 7, 5},
		{"a Room's; taken by itself", []int{0}, []int{0}, 5, 7, 5},
		{"a badge; no slot B", []int{5}, []int{8}, 3, 5, 3},
		{"a badge; no slot B, deeper", []int{2, 10}, []int{6, 0}, 3, 5, 3},
		{"a badge; taken", []int{5}, []int{1}, 5, 5, 5},
		{"a node's; no slot B in it", []int{2, 2}, []int{2, 2, 2}, 3, 7, 3},
		{"a ring; taken", []int{2}, []int{2, 0}, 5, 7, 5},
		{"a ring; taken by what is in it", []int{2}, []int{2, 2}, 5, 7, 5},
		{"a ring; taken, deeper", []int{2}, []int{2, 2, 0}, 5, 7, 5},
		{"a ring; a kind that bears no badge", []int{2}, []int{2, 11}, 1, 7, 1},
	} {
		for x := range 8 {
			refused(t, s, 0, toCopy(c.a, c.b, x), c.copied)
			refused(t, s, 0, toMint(c.a, c.b, x, 1+x), c.minted)
		}
		refused(t, s, 0, toMove(c.a, c.b), c.moved)
	}
}

// Ahead of all: whatever else there is to be refused by, it is EARG.
func TestAheadOfAll(t *testing.T) {
	s := rich(t)
	for _, a := range [][]int{{0}, {1}, {2}, {5}, {6}, {8}, {2, 0}} {
		for _, b := range [][]int{{6}, {1}, {9}, {2, 4}, {2, 11}} {
			for _, c := range notGood(a, b) {
				for thread := -1; thread <= 2; thread++ {
					refused(t, s, thread, c, api.EARG)
				}
			}
			for _, thread := range append(far(), 2, 3, 4) {
				for _, c := range []call.Call{toCopy(a, b, 7), toMint(a, b, 7, 1), toMove(a, b)} {
					refused(t, s, thread, c, api.EARG)
				}
			}
		}
	}
	for threads := 1; threads <= 4; threads++ {
		for thread := -2; thread < 6; thread++ {
			for _, c := range []call.Call{toCopy([]int{1}, []int{5}, 7), toMint([]int{1}, []int{5}, 7, 1), toMove([]int{1}, []int{5})} {
				if thread < 0 || thread >= threads {
					refused(t, first(threads), thread, c, api.EARG)
					continue
				}
				if next := goes(t, first(threads), thread, c); next.Slots[8*thread+5].Cap.Thing != 1 {
					t.Errorf("P16.1: Do(%d, %s): %s", thread, short(c), tell(next))
				}
			}
		}
	}
}

// notGood gives calls by these two ways that are not Good, or of another Op.
func notGood(a, b []int) []call.Call {
	l := []call.Call{
		{}, {Op: 2}, {Op: 2, X: 4}, {Op: 2, A: way(a...), X: 4}, {Op: 2, B: way(b...), X: 4}, {Op: 3, A: way(a...), B: way(b...)}, {Op: 3, A: way(a...), X: 4, Y: 1}, {Op: 3, B: way(b...), X: 4, Y: 1}, {Op: 4}, {Op: 4, A: way(a...)}, {Op: 4, B: way(b...)},
		{Op: 2, A: way(a...), B: way(b...), X: 7, Y: 1}, {Op: 2, A: way(a...), B: way(b...), X: 7, W: 1}, {Op: 3, A: way(a...), B: way(b...), X: 7, Y: 1, W: 1}, {Op: 4, A: way(a...), B: way(b...), X: 1}, {Op: 4, A: way(a...), B: way(b...), Y: 1}, {Op: 4, A: way(a...), B: way(b...), W: 1},
		toCopy(a, b, -1), toCopy(a, b, 8), toCopy(a, b, 7+1<<32), toMint(a, b, -1, 1), toMint(a, b, 8, 1), toMint(a, b, 7, -1), toMint(a, b, 7, 0), toMint(a, b, 7, 65536), toMint(a, b, 7, 1+1<<32),
		{Op: 1, A: way(a...), B: way(b...), X: 4}, {Op: 5, A: way(a...)}, {Op: 6, A: way(a...)}, {Op: 7, A: way(a...), B: way(b...), W: 4}, {Op: 7, A: way(a...)}, {Op: 8, A: way(a...), B: way(b...)}, {Op: 8, A: way(a...)},
		{Op: 9, A: way(a...)}, {Op: 10, A: way(a...)}, {Op: 11, A: way(a...), X: 3, W: 4}, {Op: 12, A: way(a...), X: 3}, {Op: 13, A: way(a...)},
	}
	for _, p := range [][]int{nil, {}, {0, 0, 0, 0}, {2, 2, 0, 0}, {16}, {-1}, {2, 16}, {2, -1}, {1 << 32}, {math.MinInt}, make([]int, 1<<16)} {
		l = append(l, toCopy(p, b, 7), toCopy(a, p, 7), toMint(p, b, 7, 1), toMint(a, p, 7, 1), toMove(p, b), toMove(a, p))
	}
	for _, op := range []int{-1, 0, 1, 5, 7, 8, 13, 14, 255, 258, 259, 260, 2 + 1<<32, 4 + 1<<32, math.MinInt + 2, math.MaxInt} {
		l = append(l, call.Call{Op: op, A: way(a...), B: way(b...)}, call.Call{Op: op, A: way(a...), B: way(b...), X: 4}, call.Call{Op: op, A: way(a...), B: way(b...), X: 4, Y: 1})
	}
	return l
}

// notGoodStates gives rich with each clause of what makes a state Good, broken by itself.
func notGoodStates(t *testing.T) []state.State {
	t.Helper()
	var l []state.State
	for i, change := range []func(s *state.State){
		func(s *state.State) { s.Geo.Threads = 3 },
		func(s *state.State) { s.Geo.Threads = 0 },
		func(s *state.State) { s.Geo.Threads = 1 << 32 },
		func(s *state.State) { s.Geo.Slots = 88 },
		func(s *state.State) { s.Geo.Things++ },
		func(s *state.State) { s.Geo = geo.Geo{} },
		func(s *state.State) { s.Slots = s.Slots[:88] },
		func(s *state.State) { s.Slots = append(s.Slots, bare()) },
		func(s *state.State) { s.Slots = nil },
		func(s *state.State) { s.Things = s.Things[:19] },
		func(s *state.State) { s.Things = nil },
		func(s *state.State) { s.Things = make([]thing.Thing, 1<<12) },
		func(s *state.State) { s.Slots[6].Cap.Rights = 1 },
		func(s *state.State) { s.Slots[0].Cap.Rights = 8 },
		func(s *state.State) { s.Slots[0].Cap.Thing = 20 },
		func(s *state.State) { s.Slots[0].Cap.Thing = math.MaxInt },
		func(s *state.State) { s.Slots[1].Cap.Thing = -1 },
		func(s *state.State) { s.Slots[0].Cap.Thing = 16 },
		func(s *state.State) { s.Slots[0].Cap.Badge = 1 },
		func(s *state.State) { s.Slots[1].Cap.Type = 1 },
		func(s *state.State) { s.Slots[5].Cap.Rights = 4; s.Slots[1].Cap.Rights = 3 },
		func(s *state.State) { s.Slots[6].Up = 0 },
		func(s *state.State) { s.Slots[0].Up = 0 },
		func(s *state.State) { s.Slots[2].Up = 6 },
		func(s *state.State) { s.Slots[2].Up = 10 },
		func(s *state.State) { s.Slots[95] = slot(4, 5, 5, 0, -1) },
		func(s *state.State) { s.Things[0].Used = 65 },
		func(s *state.State) { s.Things[0].Word = 1 },
		func(s *state.State) { s.Things[0] = thing.Thing{} },
		func(s *state.State) { s.Things[2] = thing.Thing{} },
		func(s *state.State) { s.Things[3].Base = 54 },
		func(s *state.State) { s.Things[4].Bits = 63 },
		func(s *state.State) { s.Things[4].Bits = -1 },
		func(s *state.State) { s.Things[7].Base = 31 },
		func(s *state.State) { s.Things[7].Base = 95 },
		func(s *state.State) { s.Things[16] = thing.Thing{Type: 4} },
		func(s *state.State) { s.Things[10].From = 7 },
		func(s *state.State) { s.Things[10].From = 97 },
		func(s *state.State) { s.Slots[33] = slot(2, 4, 7, 0, 2) },
		func(s *state.State) { *s = state.State{} },
		func(s *state.State) { *s = state.State{Geo: geo.Plain()} },
	} {
		s := copyOf(rich(t))
		change(&s)
		if state.Good(s) {
			t.Errorf("change %d leaves the state Good", i)
		}
		l = append(l, s)
	}
	return l
}

func TestStatesThatAreNotGood(t *testing.T) {
	for _, s := range notGoodStates(t) {
		for thread := -1; thread <= 3; thread++ {
			for _, a := range [][]int{{1}, {0}, {2}, {5}, {6}, {8}, {2, 0}} {
				for _, b := range [][]int{{7}, {1}, {8}, {2, 11}} {
					refused(t, s, thread, toCopy(a, b, 7), api.EARG)
					refused(t, s, thread, toMint(a, b, 7, 1), api.EARG)
					refused(t, s, thread, toMove(a, b), api.EARG)
				}
			}
			refused(t, s, thread, call.Call{}, api.EARG)
			refused(t, s, thread, call.Call{Op: 13, A: way(1)}, api.EARG)
		}
	}
}
