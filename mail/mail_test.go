package mail_test

import (
	"math"
	"testing"

	"reeve/api"
	"reeve/call"
	"reeve/carve"
	"reeve/geo"
	"reeve/give"
	"reeve/mail"
	"reeve/path"
	"reeve/state"
	"reeve/take"
	"reeve/thing"
)

func TestTheGivenNumbers(t *testing.T) {
	if api.Room != 1 || api.Node != 2 || api.Mail != 3 || api.Bell != 4 || api.Leaf != 5 || api.Read != 1 || api.Write != 2 || api.Grant != 4 || api.MaxBadge != 65535 || api.MaxSlots != 96 || api.MaxThings != 48 {
		t.Errorf("the tests' numbers are not api's")
	}
	if api.EARG != 1 || api.EPATH != 3 || api.EEMPTY != 4 || api.ETAKEN != 5 || api.ERIGHT != 6 || api.ETYPE != 7 || api.EBUSY != 13 || api.EVOID != 14 {
		t.Errorf("the tests' errors are not api's")
	}
}

// boxOf is a full box that hands on what is in a slot; of -1: a word alone.
func boxOf(slot int) thing.Thing {
	return thing.Thing{Type: 3, Full: true, Word: 77, Badge: 5, From: slot + 1}
}

// rich has two threads. In thread 0's root (slots 0 to 7): room 0, box 1, node 4 (slots 16 to 31), bell 5, leaf 6, box 1 with badge 9 and without Grant that came of slot 1, nothing at 6 and 7.
// In thread 1's root (slots 8 to 15): box 1 at 1, node 4 to be read alone at 2, node 7 (slots 32, 33) without Read at 3, room 8 without Write at 4, box 10 with Grant alone and with badge 65535 at 5, nothing at 0, 6 and 7.
// In node 4: box 1 with badge 9 to be read alone, leaf 6 without rights, node 7, node 9 (slots 34 to 37), box 10, then five full boxes: with a word alone (11), and such that hand on slots 3 (12), 2 (13), 0 (14) and 5 (15); box 12 with badge 7 to be read alone, bell 5 with badge 6; nothing from 12 on.
// In node 7: node 16 (slots 40, 41), too deep to go on; nothing at 1. In node 9: box 1 that came of slot 9, box 10 with badge 3 and without Read; nothing from 2 on. In node 16 nothing. Boxes 1 and 10 are empty.
func rich(t *testing.T) state.State {
	t.Helper()
	s := first(2)
	s.Things[0].Used = 60
	for i, x := range map[int]thing.Thing{
		4: {Type: 2, Bits: 4, Base: 16}, 5: {Type: 4, Word: 8}, 6: {Type: 5, Data: [4]uint64{1, 2, 3, 4}}, 7: {Type: 2, Bits: 1, Base: 32}, 8: {Type: 1, Size: 40}, 9: {Type: 2, Bits: 2, Base: 34},
		10: {Type: 3}, 11: boxOf(-1), 12: boxOf(3), 13: boxOf(2), 14: boxOf(0), 15: boxOf(5), 16: {Type: 2, Bits: 1, Base: 40},
	} {
		s.Things[i] = x
	}
	for i, x := range map[int]state.Slot{
		2: slot(2, 4, 7, 0, 0), 3: slot(4, 5, 7, 0, 0), 4: slot(5, 6, 7, 0, 0), 5: slot(3, 1, 3, 9, 1),
		10: slot(2, 4, 1, 0, 2), 11: slot(2, 7, 6, 0, 18), 12: slot(1, 8, 5, 0, 0), 13: slot(3, 10, 4, 65535, 20),
		16: slot(3, 1, 1, 9, 5), 17: slot(5, 6, 0, 0, 4), 18: slot(2, 7, 7, 0, 0), 19: slot(2, 9, 7, 0, 0), 20: slot(3, 10, 7, 0, 0),
		21: slot(3, 11, 7, 0, 0), 22: slot(3, 12, 7, 0, 0), 23: slot(3, 13, 7, 0, 0), 24: slot(3, 14, 7, 0, 0), 25: slot(3, 15, 7, 0, 0),
		26: slot(3, 12, 1, 7, 22), 27: slot(4, 5, 3, 6, 3), 32: slot(2, 16, 7, 0, 0), 34: slot(3, 1, 7, 0, 9), 35: slot(3, 10, 6, 3, 20),
	} {
		s.Slots[i] = x
	}
	return fine(t, s)
}

// fine holds a state of the tests to be one that may be.
func fine(t *testing.T, s state.State) state.State {
	t.Helper()
	if !state.Good(s) {
		t.Fatalf("the tests' state may not be: %s", tell(s))
	}
	return s
}

// changed is a state, changed in some places, which must be one that may be.
func changed(t *testing.T, s state.State, change func(s *state.State)) state.State {
	t.Helper()
	s = copyOf(s)
	change(&s)
	return fine(t, s)
}

// refused holds a call that must be refused against its error, in numbers: beside it nothing is told, and the state is as it was.
func refused(t *testing.T, s state.State, thread int, c call.Call, want api.Errno) {
	t.Helper()
	next, r := check(t, s, thread, c)
	if r.Err != want || r.W != 0 || r.N != 0 || !state.Same(next, s) {
		t.Errorf("P18.1: Do(%d, %s): %+v, want the error %d alone, and %s as it was", thread, short(c), r, want, tell(s))
	}
}

// sent holds a call to send that must go well: its answer tells nothing.
func sent(t *testing.T, s state.State, thread int, c call.Call) state.State {
	t.Helper()
	next, r := check(t, s, thread, c)
	if r.Err != 0 || r.W != 0 || r.N != 0 {
		t.Errorf("P18.1: Do(%d, %s): %+v, want nothing, of %s", thread, short(c), r, tell(s))
	}
	return next
}

// got holds a call to receive that must go well: it tells the word and the badge.
func got(t *testing.T, s state.State, thread int, c call.Call, w uint64, badge int) state.State {
	t.Helper()
	next, r := check(t, s, thread, c)
	if r.Err != 0 || r.W != w || r.N != badge {
		t.Errorf("P18.1: Do(%d, %s): %+v, want W %d, N %d, of %s", thread, short(c), r, w, badge, tell(s))
	}
	return next
}

// alike holds a state behind a call against the one ahead of it, changed in some places.
func alike(t *testing.T, got, was state.State, change func(s *state.State)) {
	t.Helper()
	was = copyOf(was)
	change(&was)
	if !state.Same(got, was) {
		t.Errorf("P18.1: %s, want %s", tell(got), tell(was))
	}
}

func TestTheExample(t *testing.T) {
	s, _ := state.New(geo.Plain(), 64)
	next, r := mail.Do(s, 0, call.Call{Op: 7, A: path.Path{L: []int{1}}, W: 99})
	if r != (state.Reply{}) || next.Things[1] != (thing.Thing{Type: api.Mail, Full: true, Word: 99}) {
		t.Errorf("P18.1: send: %+v, %+v", r, next.Things[1])
	}
	next, r = mail.Do(next, 1, call.Call{Op: 8, A: path.Path{L: []int{1}}})
	if r != (state.Reply{W: 99}) || !state.Same(next, s) {
		t.Errorf("P18.1: recv: %+v, %+v", r, next.Things[1])
	}
}

// Ways through nodes, of either thread, with and without a way to be handed on: nothing but the box is changed.
func TestSends(t *testing.T) {
	s := rich(t)
	for _, c := range []struct {
		thread      int
		a, b        []int
		box         int
		badge, from int
	}{
		{0, []int{1}, nil, 1, 0, 0}, {0, []int{1}, []int{}, 1, 0, 0}, {0, []int{5}, nil, 1, 9, 0}, {1, []int{1}, nil, 1, 0, 0}, {0, []int{2, 4}, nil, 10, 0, 0}, {1, []int{2, 4}, nil, 10, 0, 0}, {0, []int{2, 3, 0}, nil, 1, 0, 0}, {0, []int{2, 3, 1}, nil, 10, 3, 0}, {1, []int{2, 3, 1}, nil, 10, 3, 0},
		{0, []int{1}, []int{1}, 1, 0, 2}, {0, []int{1}, []int{2}, 1, 0, 3}, {0, []int{1}, []int{3}, 1, 0, 4}, {0, []int{1}, []int{4}, 1, 0, 5}, {0, []int{1}, []int{5}, 1, 0, 6}, {0, []int{1}, []int{2, 0}, 1, 0, 17}, {0, []int{1}, []int{2, 1}, 1, 0, 18}, {0, []int{1}, []int{2, 2}, 1, 0, 19}, {0, []int{1}, []int{2, 11}, 1, 0, 28}, {0, []int{1}, []int{2, 2, 0}, 1, 0, 33}, {0, []int{1}, []int{2, 3, 1}, 1, 0, 36},
		{1, []int{1}, []int{1}, 1, 0, 10}, {1, []int{1}, []int{2}, 1, 0, 11}, {1, []int{1}, []int{3}, 1, 0, 12}, {1, []int{1}, []int{5}, 1, 0, 14}, {1, []int{1}, []int{2, 6}, 1, 0, 23}, {1, []int{2, 4}, []int{2, 4}, 10, 0, 21}, {1, []int{2, 3, 0}, []int{2, 3, 0}, 1, 0, 35},
		{0, []int{2, 3, 1}, []int{3}, 10, 3, 4}, {0, []int{2, 3, 1}, []int{2, 3, 1}, 10, 3, 36}, {1, []int{2, 3, 1}, []int{2, 2, 0}, 10, 3, 33},
	} {
		next := sent(t, s, c.thread, toSend(c.a, c.b, 7))
		alike(t, next, s, func(s *state.State) {
			s.Things[c.box] = thing.Thing{Type: 3, Full: true, Word: 7, Badge: c.badge, From: c.from}
		})
	}
}

// kindAt is the first state with a capability of a kind in slot 5, and one that came of it in slot 6.
func kindAt(t *testing.T, kind, rights, badge int) state.State {
	t.Helper()
	return changed(t, first(2), func(s *state.State) {
		s.Things[4] = []thing.Thing{{}, {Type: 1, Size: 9}, {Type: 2, Bits: 2, Base: 16}, {Type: 3}, {Type: 4, Word: 3}, {Type: 5}}[kind]
		s.Slots[5], s.Slots[6] = slot(kind, 4, rights, badge, 0), slot(kind, 4, 0, badge, 5)
	})
}

// What is no Mail's, by whatever rights, and whatever B leads to.
func TestOtherKindsThanAMails(t *testing.T) {
	for _, kind := range []int{1, 2, 4, 5} {
		for rights := range 8 {
			s := kindAt(t, kind, rights, 0)
			for _, b := range [][]int{nil, {1}, {5}, {0}, {7}, {8}, {1, 0}} {
				refused(t, s, 0, toSend([]int{5}, b, 5), api.ETYPE)
				refused(t, s, 0, toRecv([]int{5}, b), api.ETYPE)
			}
		}
	}
}

// Each of the eight rights: Write to send a word, Grant beside it to hand on a way, Read to receive.
func TestRights(t *testing.T) {
	for rights := range 8 {
		for _, badge := range []int{0, 9} {
			s := kindAt(t, 3, rights, badge)
			full := changed(t, s, func(s *state.State) { s.Things[4] = boxOf(1) })
			if rights == 0 || rights == 1 || rights == 4 || rights == 5 {
				refused(t, s, 0, toSend([]int{5}, nil, 8), api.ERIGHT)
				refused(t, full, 0, toSend([]int{5}, nil, 8), api.ERIGHT)
			} else {
				next := sent(t, s, 0, toSend([]int{5}, nil, 8))
				alike(t, next, s, func(s *state.State) { s.Things[4] = thing.Thing{Type: 3, Full: true, Word: 8, Badge: badge} })
				refused(t, full, 0, toSend([]int{5}, nil, 8), api.EBUSY)
			}
			if rights != 6 && rights != 7 {
				refused(t, s, 0, toSend([]int{5}, []int{1}, 8), api.ERIGHT)
				refused(t, full, 0, toSend([]int{5}, []int{1}, 8), api.ERIGHT)
			} else {
				next := sent(t, s, 0, toSend([]int{5}, []int{1}, 8))
				alike(t, next, s, func(s *state.State) {
					s.Things[4] = thing.Thing{Type: 3, Full: true, Word: 8, Badge: badge, From: 2}
				})
				refused(t, full, 0, toSend([]int{5}, []int{1}, 8), api.EBUSY)
			}
			if rights%2 == 0 {
				refused(t, s, 0, toRecv([]int{5}, nil), api.ERIGHT)
				refused(t, full, 0, toRecv([]int{5}, nil), api.ERIGHT)
				refused(t, full, 0, toRecv([]int{5}, []int{7}), api.ERIGHT)
			} else {
				refused(t, s, 0, toRecv([]int{5}, nil), api.EVOID)
				refused(t, s, 0, toRecv([]int{5}, []int{7}), api.EVOID)
				alike(t, got(t, full, 0, toRecv([]int{5}, nil), 77, 5), full, func(s *state.State) { s.Things[4] = thing.Thing{Type: 3} })
				alike(t, got(t, full, 0, toRecv([]int{5}, []int{7}), 77, 5), full, func(s *state.State) {
					s.Things[4], s.Slots[7] = thing.Thing{Type: 3}, slot(3, 1, 7, 0, 1)
				})
			}
		}
	}
}

// What is handed on, of each kind, with all rights, which do not count: but a Room's; put then whole, by each Op in its turn.
func TestWaysOfEachKind(t *testing.T) {
	for kind := 1; kind <= 5; kind++ {
		for rights := range 8 {
			for _, badge := range []int{0, 1, 255, 256, 65535} {
				if badge > 0 && kind != 3 && kind != 4 {
					continue
				}
				s := kindAt(t, kind, rights, badge)
				c := toSend([]int{1}, []int{5}, 8)
				if kind == 1 {
					refused(t, s, 0, c, api.ETYPE)
					continue
				}
				next := sent(t, s, 0, c)
				alike(t, next, s, func(s *state.State) { s.Things[1] = thing.Thing{Type: 3, Full: true, Word: 8, From: 6} })
				alike(t, got(t, next, 0, toRecv([]int{1}, []int{7}), 8, 0), s, func(s *state.State) { s.Slots[7] = slot(kind, 4, rights, badge, 5) })
				alike(t, got(t, next, 1, toRecv([]int{1}, []int{0}), 8, 0), s, func(s *state.State) { s.Slots[8] = slot(kind, 4, rights, badge, 5) })
			}
		}
	}
}

// Words of all sizes: told again as they were sent, with a way and without.
func TestWords(t *testing.T) {
	s := rich(t)
	for _, w := range []uint64{0, 1, 2, 255, 256, 1 << 16, 1<<31 - 1, 1 << 31, 1 << 32, 1 << 62, 1<<63 - 1, 1 << 63, math.MaxUint64 - 1, math.MaxUint64} {
		for _, a := range [][]int{{1}, {2, 4}} {
			for _, b := range [][]int{nil, {3}} {
				next := sent(t, s, 0, toSend(a, b, w))
				if box := next.Things[s.Slots[leadTold(s, 0, a)].Cap.Thing]; box.Word != w {
					t.Errorf("P18.1: send of %d: %+v", w, box)
				}
				got(t, next, 0, toRecv(a, nil), w, 0)
				got(t, next, 0, toRecv(a, []int{2, 12}), w, 0)
			}
		}
	}
	for i := range 64 {
		got(t, sent(t, s, 1, toSend([]int{1}, nil, 1<<i)), 0, toRecv([]int{5}, nil), 1<<i, 0)
	}
}

// The badge is that of the capability by which it was sent, whoever receives, and by whatever badge.
func TestBadges(t *testing.T) {
	for _, badge := range []int{0, 1, 2, 255, 256, 32768, 65534, 65535} {
		s := changed(t, kindAt(t, 3, 7, badge), func(s *state.State) { s.Slots[7] = slot(3, 4, 7, 0, -1); s.Slots[14] = slot(3, 4, 1, 4, 7) })
		next := sent(t, s, 0, toSend([]int{5}, nil, 6))
		alike(t, next, s, func(s *state.State) { s.Things[4] = thing.Thing{Type: 3, Full: true, Word: 6, Badge: badge} })
		for _, c := range []struct{ thread, a int }{{0, 5}, {0, 7}, {1, 6}} {
			alike(t, got(t, next, c.thread, toRecv([]int{c.a}, nil), 6, badge), s, func(s *state.State) {})
		}
		next = sent(t, s, 0, toSend([]int{5}, []int{7}, 6))
		alike(t, got(t, next, 1, toRecv([]int{6}, []int{7}), 6, badge), s, func(s *state.State) { s.Slots[15] = slot(3, 4, 7, 0, 7) })
		got(t, sent(t, s, 0, toSend([]int{7}, []int{5}, 6)), 0, toRecv([]int{5}, nil), 6, 0)
	}
}

// Slots 0 and 95, the first and the last that there may be; From 0 tells of none of them.
func TestTheFirstSlotAndTheLast(t *testing.T) {
	s := changed(t, first(1), func(s *state.State) {
		s.Things[3], s.Things[4], s.Things[5] = thing.Thing{Type: 2, Bits: 4, Base: 80}, thing.Thing{Type: 4}, thing.Thing{Type: 5}
		s.Slots[0], s.Slots[2], s.Slots[3] = slot(4, 4, 7, 2, -1), slot(2, 3, 7, 0, -1), slot(1, 0, 7, 0, -1)
		s.Slots[95], s.Slots[94] = slot(5, 5, 2, 0, 3), slot(3, 1, 7, 0, 1)
	})
	for _, c := range []struct {
		b, to []int
		at    int
		from  int
		want  state.Slot
	}{
		{[]int{0}, []int{7}, 7, 1, slot(4, 4, 7, 2, 0)}, {[]int{2, 15}, []int{7}, 7, 96, slot(5, 5, 2, 0, 95)}, {[]int{2, 14}, []int{4}, 4, 95, slot(3, 1, 7, 0, 94)},
		{[]int{0}, []int{2, 0}, 80, 1, slot(4, 4, 7, 2, 0)}, {[]int{2, 15}, []int{2, 13}, 93, 96, slot(5, 5, 2, 0, 95)}, {[]int{1}, []int{2, 0}, 80, 2, slot(3, 1, 7, 0, 1)},
	} {
		next := sent(t, s, 0, toSend([]int{1}, c.b, 3))
		if next.Things[1].From != c.from {
			t.Errorf("P18.1: send of slot %d: From %d", c.from-1, next.Things[1].From)
		}
		alike(t, got(t, next, 0, toRecv([]int{1}, c.to), 3, 0), s, func(s *state.State) { s.Slots[c.at] = c.want })
	}
	// to the first slot and to the last, too.
	bare0 := changed(t, s, func(s *state.State) {
		s.Slots[0] = slot(4, 4, 7, 0, -1)
		s.Slots[95] = bare()
		s.Things[5] = thing.Thing{}
	})
	next := sent(t, bare0, 0, toSend([]int{1}, []int{0}, 3))
	alike(t, got(t, next, 0, toRecv([]int{1}, []int{2, 15}), 3, 0), bare0, func(s *state.State) { s.Slots[95] = slot(4, 4, 7, 0, 0) })
	bare0 = changed(t, s, func(s *state.State) { s.Slots[0] = bare(); s.Things[4] = thing.Thing{} })
	next = sent(t, bare0, 0, toSend([]int{1}, []int{2, 15}, 3))
	alike(t, got(t, next, 0, toRecv([]int{1}, []int{0}), 3, 0), bare0, func(s *state.State) { s.Slots[0] = slot(5, 5, 2, 0, 95) })
}

// A full box takes nothing more, from whomever, and has still what it had; an empty one has nothing.
func TestFullAndEmptyBoxes(t *testing.T) {
	s := rich(t)
	for _, a := range [][]int{{2, 5}, {2, 6}, {2, 7}, {2, 8}, {2, 9}} {
		for _, b := range [][]int{nil, {1}, {3}, {2}, a} {
			refused(t, s, 0, toSend(a, b, 5), api.EBUSY)
		}
		refused(t, s, 1, toSend(a, nil, 77), api.EBUSY)
	}
	for _, b := range [][]int{nil, {6}, {1}, {8}, {0}, {2, 0, 0}} {
		refused(t, s, 0, toRecv([]int{1}, b), api.EVOID)
		refused(t, s, 0, toRecv([]int{2, 0}, b), api.EVOID)
		refused(t, s, 0, toRecv([]int{2, 4}, b), api.EVOID)
		refused(t, s, 1, toRecv([]int{1}, b), api.EVOID)
	}
	// one behind the other, by several capabilities of one box; a word 0 fills it as any other does.
	next := s
	for i := range 5 {
		w := uint64(i) * 9
		next = sent(t, next, i%2, toSend([]int{1}, nil, w))
		refused(t, next, 0, toSend([]int{1}, nil, w), api.EBUSY)
		refused(t, next, 0, toSend([]int{5}, nil, 0), api.EBUSY)
		refused(t, next, 1, toSend([]int{1}, []int{2}, 4), api.EBUSY)
		next = got(t, next, 0, toRecv([]int{2, 0}, nil), w, 0)
		refused(t, next, 0, toRecv([]int{2, 0}, nil), api.EVOID)
		refused(t, next, 1, toRecv([]int{1}, nil), api.EVOID)
	}
	alike(t, next, s, func(s *state.State) {})
}

// By the slot of which one asks: its own way is handed on as any other.
func TestAsOwnSlot(t *testing.T) {
	s := rich(t)
	next := sent(t, s, 0, toSend([]int{1}, []int{1}, 4))
	alike(t, next, s, func(s *state.State) { s.Things[1] = thing.Thing{Type: 3, Full: true, Word: 4, From: 2} })
	alike(t, got(t, next, 1, toRecv([]int{1}, []int{0}), 4, 0), s, func(s *state.State) { s.Slots[8] = slot(3, 1, 7, 0, 1) })
	refused(t, next, 0, toRecv([]int{1}, []int{1}), api.ETAKEN)
	refused(t, next, 0, toRecv([]int{5}, []int{5}), api.ETAKEN)
	next = sent(t, s, 0, toSend([]int{2, 3, 1}, []int{2, 3, 1}, 4))
	alike(t, got(t, next, 0, toRecv([]int{2, 4}, []int{2, 3, 2}), 4, 3), s, func(s *state.State) { s.Slots[36] = slot(3, 10, 6, 3, 35) })
	refused(t, s, 0, toSend([]int{5}, []int{5}, 4), api.ERIGHT)
	refused(t, s, 0, toSend([]int{0}, []int{0}, 4), api.ETYPE)
	refused(t, s, 0, toSend([]int{6}, []int{6}, 4), api.EEMPTY)
}

// Each full box of rich, with and without a way: the word and the badge are told, the box is empty, and nothing else is changed but B's slot.
func TestRecvs(t *testing.T) {
	s := rich(t)
	for _, c := range []struct {
		thread int
		a, b   []int
		box    int
		at     int
		want   state.Slot
	}{
		{0, []int{2, 5}, nil, 11, -1, bare()}, {0, []int{2, 6}, nil, 12, -1, bare()}, {0, []int{2, 7}, []int{}, 13, -1, bare()}, {0, []int{2, 8}, nil, 14, -1, bare()}, {0, []int{2, 9}, nil, 15, -1, bare()}, {1, []int{2, 10}, nil, 12, -1, bare()},
		{0, []int{2, 6}, []int{6}, 12, 6, slot(4, 5, 7, 0, 3)}, {0, []int{2, 6}, []int{7}, 12, 7, slot(4, 5, 7, 0, 3)}, {0, []int{2, 6}, []int{2, 12}, 12, 28, slot(4, 5, 7, 0, 3)}, {0, []int{2, 6}, []int{2, 2, 1}, 12, 33, slot(4, 5, 7, 0, 3)}, {0, []int{2, 6}, []int{2, 3, 3}, 12, 37, slot(4, 5, 7, 0, 3)},
		{1, []int{2, 6}, []int{0}, 12, 8, slot(4, 5, 7, 0, 3)}, {1, []int{2, 10}, []int{7}, 12, 15, slot(4, 5, 7, 0, 3)}, {1, []int{2, 10}, []int{2, 15}, 12, 31, slot(4, 5, 7, 0, 3)}, {0, []int{2, 10}, []int{6}, 12, 6, slot(4, 5, 7, 0, 3)},
		{0, []int{2, 7}, []int{6}, 13, 6, slot(2, 4, 7, 0, 2)}, {1, []int{2, 7}, []int{6}, 13, 14, slot(2, 4, 7, 0, 2)}, {0, []int{2, 9}, []int{6}, 15, 6, slot(3, 1, 3, 9, 5)}, {1, []int{2, 9}, []int{2, 2, 1}, 15, 33, slot(3, 1, 3, 9, 5)},
	} {
		next := got(t, s, c.thread, toRecv(c.a, c.b), 77, 5)
		alike(t, next, s, func(s *state.State) {
			s.Things[c.box] = thing.Thing{Type: 3}
			if c.at >= 0 {
				s.Slots[c.at] = c.want
			}
		})
	}
}

// With B, but of a box that hands nothing on: whatever B leads to, and be it nowhere, nothing is put there.
func TestAWayThatDoesNotCount(t *testing.T) {
	s := rich(t)
	for _, b := range [][]int{{6}, {7}, {0}, {1}, {2}, {5}, {8}, {15}, {0, 0}, {6, 0}, {2, 0}, {2, 0, 0}, {2, 2, 0}, {2, 2, 2}, {2, 12}, {2, 5}, {15, 15, 15}} {
		for thread := range 2 {
			alike(t, got(t, s, 0, toRecv([]int{2, 5}, b), 77, 5), s, func(s *state.State) { s.Things[11] = thing.Thing{Type: 3} })
			next := got(t, sent(t, s, 0, toSend([]int{5}, nil, 3)), thread, toRecv([]int{1}, b), 3, 9)
			alike(t, next, s, func(s *state.State) {})
		}
	}
	// but it must be one that may be.
	for _, b := range [][]int{{16}, {-1}, {2, 16}, {0, 0, 0, 0}, {math.MaxInt}} {
		refused(t, s, 0, toRecv([]int{2, 5}, b), api.EARG)
	}
}

// With a way, but without B: what was handed on is lost, and stays where it is.
func TestAWayThatIsLost(t *testing.T) {
	s := rich(t)
	for _, b := range [][]int{{1}, {2}, {3}, {4}, {5}, {2, 2, 0}} {
		next := got(t, sent(t, s, 0, toSend([]int{1}, b, 3)), 1, toRecv([]int{1}, nil), 3, 0)
		alike(t, next, s, func(s *state.State) {})
		refused(t, next, 1, toRecv([]int{1}, []int{0}), api.EVOID)
		alike(t, got(t, sent(t, next, 0, toSend([]int{1}, nil, 4)), 1, toRecv([]int{1}, []int{0}), 4, 0), s, func(s *state.State) {})
	}
}

// What is put came of the slot that the box tells of: what is done to that slot between is told by the box.
func TestWhatIsDoneBetween(t *testing.T) {
	s := sent(t, rich(t), 0, toSend([]int{1}, []int{3}, 3))
	also := func(s state.State, thread int, c call.Call) state.State {
		t.Helper()
		next, r := give.Do(s, thread, c)
		if c.Op > 4 {
			next, r = take.Do(s, thread, c)
		}
		if r.Err != api.OK {
			t.Fatalf("the tests' call was refused: %s: %+v", short(c), r)
		}
		return next
	}
	moved := also(s, 0, call.Call{Op: 4, A: way(3), B: way(6)})
	next := got(t, moved, 1, toRecv([]int{1}, []int{0}), 3, 0)
	if next.Slots[8] != slot(4, 5, 7, 0, 6) {
		t.Errorf("P18.1: recv of what was moved: %+v", next.Slots[8])
	}
	// another one in the slot where it was is not handed on; where it is gone, nothing is, and B does not count.
	other := also(moved, 0, call.Call{Op: 2, A: way(4), B: way(3), X: 7})
	if next = got(t, other, 1, toRecv([]int{1}, []int{0}), 3, 0); next.Slots[8] != slot(4, 5, 7, 0, 6) {
		t.Errorf("P18.1: recv of what was moved: %+v", next.Slots[8])
	}
	gone := also(also(s, 0, call.Call{Op: 5, A: way(3)}), 0, call.Call{Op: 2, A: way(4), B: way(3), X: 7})
	for _, b := range [][]int{nil, {0}, {1}, {8}} {
		alike(t, got(t, gone, 1, toRecv([]int{1}, b), 3, 0), gone, func(s *state.State) { s.Things[1] = thing.Thing{Type: 3} })
	}
	// what was handed on may be taken back by that of which it came.
	next = got(t, s, 1, toRecv([]int{1}, []int{0}), 3, 0)
	if back := also(next, 0, call.Call{Op: 6, A: way(3)}); back.Slots[8] != bare() || back.Slots[3] != s.Slots[3] {
		t.Errorf("P18.1: what was handed on, revoked: %+v", back.Slots[8])
	}
	// one that was made a Room's by hand: the box tells of it, but it is not put.
	refused(t, s, 0, toSend([]int{1}, []int{0}, 3), api.ETYPE)
	refused(t, rich(t), 0, toRecv([]int{2, 8}, []int{6}), api.ETYPE)
}

// The slot may be the very one in which a box's own capability stands, and a box may hand on another box, and that one the first.
func TestBoxesInTurn(t *testing.T) {
	s := rich(t)
	next := sent(t, s, 0, toSend([]int{1}, []int{2, 4}, 1))
	next = sent(t, next, 0, toSend([]int{2, 4}, []int{1}, 2))
	next = got(t, next, 1, toRecv([]int{1}, []int{0}), 1, 0)
	next = got(t, next, 1, toRecv([]int{0}, []int{6}), 2, 0)
	alike(t, next, s, func(s *state.State) { s.Slots[8], s.Slots[14] = slot(3, 10, 7, 0, 20), slot(3, 1, 7, 0, 1) })
}

// Handed on of what was handed on, from slot to slot, by either thread: each came of the one ahead of it.
func TestHandedOnAndOn(t *testing.T) {
	s := rich(t)
	stops := []struct {
		thread, at int
		l          []int
	}{{0, 1, []int{1}}, {0, 6, []int{6}}, {1, 8, []int{0}}, {1, 14, []int{6}}, {0, 28, []int{2, 12}}, {1, 29, []int{2, 13}}, {0, 33, []int{2, 2, 1}}, {1, 37, []int{2, 3, 3}}}
	for i, to := range stops[1:] {
		from := stops[i]
		s = sent(t, s, from.thread, toSend([]int{1}, from.l, uint64(i)))
		s = got(t, s, to.thread, toRecv([]int{1}, to.l), uint64(i), 0)
		if s.Slots[to.at] != slot(3, 1, 7, 0, from.at) {
			t.Errorf("P18.1: handed on %d times: %+v, want what came of %d", i+1, s.Slots[to.at], from.at)
		}
	}
}

// A node is never put in itself, straight or through others; elsewhere it is.
func TestRings(t *testing.T) {
	s := rich(t)
	for _, c := range []struct {
		thread int
		b, to  []int
		ring   bool
	}{
		{0, []int{2}, []int{2, 12}, true}, {0, []int{2}, []int{2, 15}, true}, {0, []int{2}, []int{2, 2, 1}, true}, {0, []int{2}, []int{2, 3, 2}, true}, {0, []int{2}, []int{2, 3, 3}, true}, {0, []int{2}, []int{6}, false}, {0, []int{2}, []int{7}, false},
		{0, []int{2, 2}, []int{2, 2, 1}, true}, {0, []int{2, 2}, []int{2, 12}, false}, {0, []int{2, 2}, []int{2, 3, 2}, false}, {0, []int{2, 2}, []int{6}, false},
		{0, []int{2, 3}, []int{2, 3, 2}, true}, {0, []int{2, 3}, []int{2, 3, 3}, true}, {0, []int{2, 3}, []int{2, 2, 1}, false}, {0, []int{2, 3}, []int{2, 12}, false}, {0, []int{2, 3}, []int{7}, false},
		{0, []int{2, 2, 0}, []int{2, 2, 1}, false}, {0, []int{2, 2, 0}, []int{2, 3, 2}, false}, {0, []int{2, 2, 0}, []int{6}, false},
		{1, []int{2}, []int{2, 12}, true}, {1, []int{2}, []int{2, 2, 1}, true}, {1, []int{2}, []int{0}, false}, {1, []int{3}, []int{2, 2, 1}, true}, {1, []int{3}, []int{2, 12}, false}, {1, []int{3}, []int{0}, false},
	} {
		full := sent(t, s, c.thread, toSend([]int{1}, c.b, 6))
		if c.ring {
			refused(t, full, c.thread, toRecv([]int{1}, c.to), api.EARG)
			got(t, full, c.thread, toRecv([]int{1}, nil), 6, 0)
			continue
		}
		from, to := leadTold(s, c.thread, c.b), leadTold(s, c.thread, c.to)
		alike(t, got(t, full, c.thread, toRecv([]int{1}, c.to), 6, 0), s, func(s *state.State) {
			s.Slots[to] = state.Slot{Cap: s.Slots[from].Cap, Up: from}
		})
	}
	// by the box that rich has of it: node 4 itself.
	refused(t, s, 0, toRecv([]int{2, 7}, []int{2, 12}), api.EARG)
	refused(t, s, 1, toRecv([]int{2, 7}, []int{2, 12}), api.EARG)
	got(t, s, 1, toRecv([]int{2, 7}, []int{0}), 77, 5)
}

// A box that one has just made, in a room of one's own.
func TestABoxOfOnesOwn(t *testing.T) {
	s, r := carve.Do(first(2), 0, call.Call{Op: 1, A: way(0), B: way(2), X: 3})
	if r.Err != api.OK {
		t.Fatalf("the tests' box was not made: %+v", r)
	}
	refused(t, s, 0, toRecv([]int{2}, nil), api.EVOID)
	full := sent(t, s, 0, toSend([]int{2}, []int{2}, 12))
	alike(t, full, s, func(s *state.State) { s.Things[4] = thing.Thing{Type: 3, Full: true, Word: 12, From: 3} })
	alike(t, got(t, full, 0, toRecv([]int{2}, []int{3}), 12, 0), s, func(s *state.State) { s.Slots[3] = slot(3, 4, 7, 0, 2) })
	refused(t, s, 1, toSend([]int{2}, nil, 1), api.EEMPTY)
}

// What ways lead nowhere, or to a slot in which nothing is, or something: of A and of B.
func TestWaysThatAreRefused(t *testing.T) {
	s := rich(t)
	for _, c := range []struct {
		thread           int
		l                []int
		a, handed, putTo api.Errno
	}{
		{0, []int{8}, 3, 3, 3}, {0, []int{15}, 3, 3, 3}, {0, []int{0, 0}, 3, 3, 3}, {0, []int{1, 0}, 3, 3, 3}, {0, []int{6, 0}, 3, 3, 3}, {0, []int{2, 2, 2}, 3, 3, 3}, {0, []int{2, 0, 0}, 3, 3, 3}, {0, []int{2, 12, 0}, 3, 3, 3}, {0, []int{2, 3, 4}, 3, 3, 3},
		{1, []int{3, 0}, 3, 3, 3}, {1, []int{3, 1}, 3, 3, 3}, {1, []int{0, 0}, 3, 3, 3}, {1, []int{9}, 3, 3, 3},
		{0, []int{6}, 4, 4, 0}, {0, []int{7}, 4, 4, 0}, {0, []int{2, 12}, 4, 4, 0}, {0, []int{2, 2, 1}, 4, 4, 0}, {1, []int{0}, 4, 4, 0}, {1, []int{2, 15}, 4, 4, 0}, {1, []int{2, 3, 3}, 4, 4, 0},
		{0, []int{0}, 7, 7, 5}, {0, []int{2}, 7, 0, 5}, {0, []int{3}, 7, 0, 5}, {0, []int{2, 1}, 7, 0, 5}, {0, []int{2, 2, 0}, 7, 0, 5}, {1, []int{3}, 7, 0, 5}, {1, []int{4}, 7, 7, 5}, {1, []int{2, 3}, 7, 0, 5},
		{0, []int{2, 0}, 6, 0, 5}, {1, []int{5}, 6, 0, 5}, {1, []int{2, 0}, 6, 0, 5},
	} {
		refused(t, s, c.thread, toSend(c.l, nil, 5), c.a)
		if c.a != api.ERIGHT {
			refused(t, s, c.thread, toRecv(c.l, nil), c.a)
		}
		for _, w := range []uint64{0, 5} {
			if _, r := check(t, s, c.thread, toSend([]int{1}, c.l, w)); r.Err != c.handed {
				t.Errorf("P18.1: send of what %d leads to: %d, want %d", c.l, r.Err, c.handed)
			}
		}
		if _, r := check(t, s, c.thread, toRecv([]int{2, 6}, c.l)); r.Err != c.putTo {
			t.Errorf("P18.1: recv to where %d leads: %d, want %d", c.l, r.Err, c.putTo)
		}
	}
}
