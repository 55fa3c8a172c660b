package bell_test

import (
	"math"
	"testing"

	"reeve/api"
	"reeve/bell"
	"reeve/call"
	"reeve/carve"
	"reeve/geo"
	"reeve/give"
	"reeve/mail"
	"reeve/path"
	"reeve/state"
	"reeve/take"
	"reeve/thing"
)

func TestTheGivenNumbers(t *testing.T) {
	if api.Room != 1 || api.Node != 2 || api.Mail != 3 || api.Bell != 4 || api.Leaf != 5 || api.Read != 1 || api.Write != 2 || api.Grant != 4 || api.MaxBadge != 65535 || api.MaxSlots != 96 || api.MaxThings != 48 {
		t.Errorf("the tests' numbers are not api's")
	}
	if api.EARG != 1 || api.EPATH != 3 || api.EEMPTY != 4 || api.ERIGHT != 6 || api.ETYPE != 7 || api.EVOID != 14 {
		t.Errorf("the tests' errors are not api's")
	}
}

// ringing is a bell with that Word.
func ringing(w uint64) thing.Thing { return thing.Thing{Type: 4, Word: w} }

// rich has two threads. In thread 0's root (slots 0 to 7): room 0, box 1, node 4 (slots 16 to 31), bell 5, bell 5 with badge 3, leaf 6, nothing at 6 and 7.
// In thread 1's root (slots 8 to 15): nothing at 0, box 1, node 4 to be read alone at 2, node 7 (slots 32, 33) without Read at 3, bell 10 with badge 65535 to be rung alone, bell 10 to be polled alone, bell 5 with badge 64 and Grant alone, nothing at 7.
// In node 4: bell 5 with badge 3 to be polled alone, leaf 6 without rights, node 7, node 9 (slots 34 to 37), bells 10 to 13, room 8, the full box 15, the empty box 14, bell 11 with badge 63 and without Grant, bell 11 without rights; nothing from 13 on.
// In node 7: node 16 (slots 40, 41), too deep to go on; nothing at 1. In node 9: bell 5, bell 10 with badge 128 and without Read, bell 13 with badge 1 and without Write; nothing at 3. In node 16: bell 17.
// Bell 5 did not ring; 10 did by bit 3, 11 by all bits, 12 by bit 63, 13 by bit 0. Box 1 hands on slot 3, bell 5's.
func rich(t *testing.T) state.State {
	t.Helper()
	s := first(2)
	s.Things[0].Used = 60
	for i, x := range map[int]thing.Thing{
		1: {Type: 3, Full: true, Word: 77, Badge: 5, From: 4}, 4: {Type: 2, Bits: 4, Base: 16}, 5: ringing(0), 6: {Type: 5, Data: [4]uint64{1, 2, 3, 4}}, 7: {Type: 2, Bits: 1, Base: 32}, 8: {Type: 1, Size: 40}, 9: {Type: 2, Bits: 2, Base: 34},
		10: ringing(8), 11: ringing(math.MaxUint64), 12: ringing(1 << 63), 13: ringing(1), 14: {Type: 3}, 15: {Type: 3, Full: true, Word: 1}, 16: {Type: 2, Bits: 1, Base: 40}, 17: ringing(5),
	} {
		s.Things[i] = x
	}
	for i, x := range map[int]state.Slot{
		2: slot(2, 4, 7, 0, 0), 3: slot(4, 5, 7, 0, 0), 4: slot(4, 5, 7, 3, 3), 5: slot(5, 6, 7, 0, 0),
		10: slot(2, 4, 1, 0, 2), 11: slot(2, 7, 6, 0, 18), 12: slot(4, 10, 2, 65535, 20), 13: slot(4, 10, 1, 0, 20), 14: slot(4, 5, 4, 64, 3),
		16: slot(4, 5, 1, 3, 4), 17: slot(5, 6, 0, 0, 5), 18: slot(2, 7, 7, 0, 0), 19: slot(2, 9, 7, 0, 0),
		20: slot(4, 10, 7, 0, 0), 21: slot(4, 11, 7, 0, 0), 22: slot(4, 12, 7, 0, 0), 23: slot(4, 13, 7, 0, 0),
		24: slot(1, 8, 7, 0, 0), 25: slot(3, 15, 7, 0, 0), 26: slot(3, 14, 7, 0, 0), 27: slot(4, 11, 3, 63, 21), 28: slot(4, 11, 0, 0, 21),
		32: slot(2, 16, 7, 0, 0), 34: slot(4, 5, 7, 0, 3), 35: slot(4, 10, 6, 128, 20), 36: slot(4, 13, 5, 1, 23), 40: slot(4, 17, 7, 0, 0),
	} {
		s.Slots[i] = x
	}
	return fine(t, s)
}

// fine holds a state of the tests to be one that may be.
func fine(t *testing.T, s state.State) state.State {
	t.Helper()
	if !state.Good(s) {
		t.Fatalf("the tests' state may not be: %s", tell(s))
	}
	return s
}

// changed is a state, changed in some places, which must be one that may be.
func changed(t *testing.T, s state.State, change func(s *state.State)) state.State {
	t.Helper()
	s = copyOf(s)
	change(&s)
	return fine(t, s)
}

// refused holds a call that must be refused against its error, in numbers: beside it nothing is told, and the state is as it was.
func refused(t *testing.T, s state.State, thread int, c call.Call, want api.Errno) {
	t.Helper()
	next, r := check(t, s, thread, c)
	if r.Err != want || r.W != 0 || r.N != 0 || !state.Same(next, s) {
		t.Errorf("P19.1: Do(%d, %s): %+v, want the error %d alone, and %s as it was", thread, short(c), r, want, tell(s))
	}
}

// rung holds a call to ring that must go well: its answer tells nothing, and nothing but that bell is changed.
func rung(t *testing.T, s state.State, thread int, a []int, number int, word uint64) state.State {
	t.Helper()
	next, r := check(t, s, thread, toRing(a...))
	if r.Err != 0 || r.W != 0 || r.N != 0 {
		t.Errorf("P19.1: ring(%d, %d): %+v, want nothing, of %s", thread, a, r, tell(s))
	}
	alike(t, next, s, func(s *state.State) { s.Things[number].Word = word })
	return next
}

// polled holds a call to poll that must go well: it tells the word alone, and nothing but that bell is changed, which is still then.
func polled(t *testing.T, s state.State, thread int, a []int, number int, word uint64) state.State {
	t.Helper()
	next, r := check(t, s, thread, toPoll(a...))
	if r.Err != 0 || r.W != word || r.N != 0 {
		t.Errorf("P19.1: poll(%d, %d): %+v, want W %#x alone, of %s", thread, a, r, word, tell(s))
	}
	alike(t, next, s, func(s *state.State) { s.Things[number].Word = 0 })
	return next
}

// alike holds a state behind a call against the one ahead of it, changed in some places.
func alike(t *testing.T, got, was state.State, change func(s *state.State)) {
	t.Helper()
	was = copyOf(was)
	change(&was)
	if !state.Same(got, was) {
		t.Errorf("P19.1: %s, want %s", tell(got), tell(was))
	}
}

func TestTheExample(t *testing.T) {
	s, _ := state.New(geo.Plain(), 64)
	s, r := carve.Do(s, 0, call.Call{Op: 1, A: path.Path{L: []int{0}}, B: path.Path{L: []int{2}}, X: api.Bell})
	if r != (state.Reply{N: 4}) {
		t.Fatalf("the tests' bell was not made: %+v", r)
	}
	s, r = give.Do(s, 0, call.Call{Op: 3, A: path.Path{L: []int{2}}, B: path.Path{L: []int{3}}, X: api.All, Y: 3})
	if r != (state.Reply{}) {
		t.Fatalf("the tests' bell was not minted: %+v", r)
	}
	next, r := bell.Do(s, 0, call.Call{Op: 9, A: path.Path{L: []int{3}}})
	if r != (state.Reply{}) || next.Things[4] != (thing.Thing{Type: api.Bell, Word: 8}) {
		t.Errorf("P19.1: ring: %+v, %+v", r, next.Things[4])
	}
	next, r = bell.Do(next, 0, call.Call{Op: 10, A: path.Path{L: []int{3}}})
	if r != (state.Reply{W: 8}) || !state.Same(next, s) {
		t.Errorf("P19.1: poll: %+v, %+v", r, next.Things[4])
	}
}

// Ways through nodes, of either thread, by capabilities with badges and without.
func TestRings(t *testing.T) {
	s := rich(t)
	for _, c := range []struct {
		thread int
		a      []int
		number int
		word   uint64
	}{
		{0, []int{3}, 5, 1}, {0, []int{4}, 5, 8}, {0, []int{2, 4}, 10, 9}, {0, []int{2, 5}, 11, math.MaxUint64}, {0, []int{2, 6}, 12, 1<<63 | 1}, {0, []int{2, 7}, 13, 1}, {0, []int{2, 11}, 11, math.MaxUint64},
		{0, []int{2, 3, 0}, 5, 1}, {0, []int{2, 3, 1}, 10, 9},
		{1, []int{4}, 10, 1<<63 | 8}, {1, []int{2, 4}, 10, 9}, {1, []int{2, 5}, 11, math.MaxUint64}, {1, []int{2, 6}, 12, 1<<63 | 1}, {1, []int{2, 7}, 13, 1}, {1, []int{2, 3, 0}, 5, 1}, {1, []int{2, 3, 1}, 10, 9},
	} {
		rung(t, s, c.thread, c.a, c.number, c.word)
	}
}

// Of either thread, by ways through nodes: also by what has a badge it tells each bit, not that badge's alone.
func TestPolls(t *testing.T) {
	s := rich(t)
	for _, c := range []struct {
		thread int
		a      []int
		number int
		word   uint64
	}{
		{0, []int{2, 4}, 10, 8}, {0, []int{2, 5}, 11, math.MaxUint64}, {0, []int{2, 6}, 12, 1 << 63}, {0, []int{2, 7}, 13, 1}, {0, []int{2, 11}, 11, math.MaxUint64}, {0, []int{2, 3, 2}, 13, 1},
		{1, []int{5}, 10, 8}, {1, []int{2, 4}, 10, 8}, {1, []int{2, 5}, 11, math.MaxUint64}, {1, []int{2, 6}, 12, 1 << 63}, {1, []int{2, 11}, 11, math.MaxUint64}, {1, []int{2, 3, 2}, 13, 1},
	} {
		next := polled(t, s, c.thread, c.a, c.number, c.word)
		refused(t, next, c.thread, toPoll(c.a...), api.EVOID)
		refused(t, next, 1-c.thread, toPoll(2, 3, 0), api.EVOID)
	}
	for _, a := range [][]int{{3}, {4}, {2, 0}, {2, 3, 0}} {
		refused(t, s, 0, toPoll(a...), api.EVOID)
	}
}

// kindAt is the first state with a capability of a kind in slot 5, and one that came of it in slot 6. A box there tells a word, if it is full.
func kindAt(t *testing.T, kind, rights, badge int, word uint64) state.State {
	t.Helper()
	return changed(t, first(2), func(s *state.State) {
		s.Things[4] = []thing.Thing{{}, {Type: 1, Size: 9, Used: 5}, {Type: 2, Bits: 2, Base: 16}, {Type: 3, Full: word > 0, Word: word}, ringing(word), {Type: 5, Data: [4]uint64{word, 2, word, 4}}}[kind]
		s.Slots[5], s.Slots[6] = slot(kind, 4, rights, badge, 0), slot(kind, 4, 0, badge, 5)
	})
}

// What is no Bell's, by whatever rights, with whatever in it.
func TestOtherKindsThanABells(t *testing.T) {
	for _, kind := range []int{1, 2, 3, 5} {
		for rights := range 8 {
			for _, word := range []uint64{0, 1, 8, 1 << 63, math.MaxUint64} {
				s := kindAt(t, kind, rights, 0, word)
				refused(t, s, 0, toRing(5), api.ETYPE)
				refused(t, s, 0, toPoll(5), api.ETYPE)
				refused(t, s, 0, toRing(6), api.ETYPE)
				refused(t, s, 0, toPoll(6), api.ETYPE)
				if kind != 3 {
					continue
				}
				for _, badge := range []int{1, 64, 65535} {
					s = kindAt(t, 3, rights, badge, word)
					refused(t, s, 0, toRing(5), api.ETYPE)
					refused(t, s, 0, toPoll(5), api.ETYPE)
				}
			}
		}
	}
}

// Each of the eight rights: Write to ring, Read to poll, whatever rang already, and whatever the badge.
func TestRights(t *testing.T) {
	for rights := range 8 {
		for _, badge := range []int{0, 1, 63, 64, 65, 65535} {
			for _, word := range []uint64{0, 1, 2, 8, 1 << 63, math.MaxUint64} {
				s := kindAt(t, 4, rights, badge, word)
				bit := map[int]uint64{0: 1, 1: 2, 63: 1 << 63, 64: 1, 65: 2, 65535: 1 << 63}[badge]
				if rights == 2 || rights == 3 || rights == 6 || rights == 7 {
					rung(t, s, 0, []int{5}, 4, word|bit)
				} else {
					refused(t, s, 0, toRing(5), api.ERIGHT)
				}
				switch {
				case rights != 1 && rights != 3 && rights != 5 && rights != 7:
					refused(t, s, 0, toPoll(5), api.ERIGHT)
				case word == 0:
					refused(t, s, 0, toPoll(5), api.EVOID)
				default:
					polled(t, s, 0, []int{5}, 4, word)
				}
				refused(t, s, 0, toRing(6), api.ERIGHT)
				refused(t, s, 0, toPoll(6), api.ERIGHT)
			}
		}
	}
}

// Badges at the edges, in numbers: which bit each sets.
func TestBadges(t *testing.T) {
	for _, c := range []struct {
		badge int
		want  uint64
	}{
		{0, 1}, {1, 2}, {2, 4}, {3, 8}, {31, 0x80000000}, {32, 0x100000000}, {33, 0x200000000}, {62, 0x4000000000000000}, {63, 0x8000000000000000},
		{64, 1}, {65, 2}, {126, 0x4000000000000000}, {127, 0x8000000000000000}, {128, 1}, {129, 2}, {255, 0x8000000000000000}, {256, 1}, {257, 2},
		{4096, 1}, {32767, 0x8000000000000000}, {32768, 1}, {65472, 1}, {65534, 0x4000000000000000}, {65535, 0x8000000000000000},
	} {
		next := rung(t, kindAt(t, 4, 7, c.badge, 0), 0, []int{5}, 4, c.want)
		next = rung(t, next, 0, []int{5}, 4, c.want)
		polled(t, next, 0, []int{5}, 4, c.want)
	}
}

// All badges that may be: each bit comes round, one behind the other.
func TestAllBadges(t *testing.T) {
	s, _ := state.New(geo.Geo{Threads: 1, Slots: 8, Things: 4}, 64)
	s.Things[3], s.Slots[5] = ringing(0), slot(4, 3, 2, 0, 0)
	want := uint64(1)
	for badge := range 1 << 16 {
		s.Slots[5].Cap.Badge = badge
		if next, r := bell.Do(s, 0, toRing(5)); r != (state.Reply{}) || next.Things[3] != ringing(want) {
			t.Fatalf("P19.1: ring by badge %d: %+v, %+v, want %#x", badge, r, next.Things[3], want)
		}
		if want *= 2; want == 0 {
			want = 1
		}
	}
}

// A bit that is set already stays so, and one that is not is set; all others stay as they were.
func TestBitsOfAWord(t *testing.T) {
	words := []uint64{0, 1, 2, 8, 9, 0x5555555555555555, 0xaaaaaaaaaaaaaaaa, 1 << 62, 1 << 63, 1<<63 | 1, math.MaxUint64 - 1, math.MaxUint64 >> 1, math.MaxUint64}
	for i := range 64 {
		words = append(words, 1<<i, math.MaxUint64-1<<i)
	}
	for _, word := range words {
		for i := range 64 {
			s := kindAt(t, 4, 3, i, word)
			want := word
			if word/(1<<i)%2 == 0 {
				want += 1 << i
			}
			next, r := bell.Do(s, 0, toRing(5))
			if r != (state.Reply{}) || next.Things[4] != ringing(want) {
				t.Errorf("P19.1: ring of %#x by badge %d: %+v, %+v, want %#x", word, i, r, next.Things[4], want)
			}
			if next, r = bell.Do(next, 0, toPoll(5)); r != (state.Reply{W: want}) || next.Things[4] != ringing(0) {
				t.Errorf("P19.1: poll of %#x: %+v, %+v", want, r, next.Things[4])
			}
		}
	}
	for _, word := range words {
		if s := kindAt(t, 4, 7, 9, word); word == 0 {
			refused(t, s, 0, toPoll(5), api.EVOID)
		} else {
			next := polled(t, s, 0, []int{5}, 4, word)
			refused(t, next, 0, toPoll(5), api.EVOID)
		}
	}
}

// Several capabilities of one bell, of both threads: what each rings adds up, till one of them polls; other bells are as they were.
func TestOneBehindTheOther(t *testing.T) {
	s := rich(t)
	next := rung(t, s, 0, []int{3}, 5, 1)
	next = rung(t, next, 0, []int{4}, 5, 9)
	next = rung(t, next, 1, []int{2, 3, 0}, 5, 9)
	refused(t, next, 1, toPoll(6), api.ERIGHT)
	next = polled(t, next, 1, []int{2, 0}, 5, 9)
	alike(t, next, s, func(s *state.State) {})
	refused(t, next, 0, toPoll(3), api.EVOID)
	next = rung(t, next, 0, []int{4}, 5, 8)
	next = rung(t, next, 1, []int{4}, 10, 1<<63|8)
	next = rung(t, next, 0, []int{2, 4}, 10, 1<<63|9)
	next = polled(t, next, 0, []int{3}, 5, 8)
	next = polled(t, next, 1, []int{5}, 10, 1<<63|9)
	refused(t, next, 0, toPoll(2, 4), api.EVOID)
	alike(t, next, s, func(s *state.State) { s.Things[10].Word = 0 })
	// all bits, one by one, from none: by minted capabilities in one slot.
	next = kindAt(t, 4, 7, 0, 0)
	want := uint64(0)
	for i := range 64 {
		next.Slots[5], next.Slots[6] = slot(4, 4, 7, i, 0), bare()
		want += 1 << i
		next = rung(t, next, 0, []int{5}, 4, want)
	}
	polled(t, next, 0, []int{5}, 4, math.MaxUint64)
}

// The first slot and the last, the first thing and the last: as any others.
func TestTheFirstAndTheLast(t *testing.T) {
	s, _ := state.New(geo.Geo{Threads: 1, Slots: 96, Things: 48}, 64)
	s = changed(t, s, func(s *state.State) {
		s.Things[0], s.Things[47], s.Things[46] = ringing(4), ringing(0), thing.Thing{Type: 2, Bits: 4, Base: 80}
		s.Slots[0], s.Slots[7], s.Slots[95] = slot(4, 0, 7, 1, -1), slot(2, 46, 7, 0, -1), slot(4, 47, 7, 65535, -1)
	})
	next := rung(t, s, 0, []int{0}, 0, 6)
	polled(t, next, 0, []int{0}, 0, 6)
	next = rung(t, s, 0, []int{7, 15}, 47, 1<<63)
	polled(t, next, 0, []int{7, 15}, 47, 1<<63)
	refused(t, s, 0, toPoll(7, 15), api.EVOID)
	for threads := 1; threads <= 4; threads++ {
		for thread := range threads {
			s := changed(t, first(threads), func(s *state.State) {
				s.Things[19] = ringing(0)
				s.Slots[8*thread+7] = slot(4, 19, 3, 64, -1)
			})
			next := rung(t, s, thread, []int{7}, 19, 1)
			alike(t, polled(t, next, thread, []int{7}, 19, 1), s, func(s *state.State) {})
		}
	}
}

// A bell that one has just made, in a room of one's own; minted, copied, handed on, moved and taken away.
func TestABellOfOnesOwn(t *testing.T) {
	also := func(s state.State, thread int, c call.Call) state.State {
		t.Helper()
		next, r := s, state.Reply{}
		switch {
		case c.Op == 1:
			next, r = carve.Do(s, thread, c)
		case c.Op < 5:
			next, r = give.Do(s, thread, c)
		case c.Op < 7:
			next, r = take.Do(s, thread, c)
		default:
			next, r = mail.Do(s, thread, c)
		}
		if r.Err != api.OK {
			t.Fatalf("the tests' call was refused: %s: %+v", short(c), r)
		}
		return next
	}
	s := also(first(2), 0, call.Call{Op: 1, A: way(0), B: way(2), X: 4})
	refused(t, s, 0, toPoll(2), api.EVOID)
	s = also(s, 0, call.Call{Op: 3, A: way(2), B: way(3), X: 2, Y: 65})
	refused(t, s, 0, toPoll(3), api.ERIGHT)
	s = also(s, 0, call.Call{Op: 7, A: way(1), B: way(3)})
	s = also(s, 1, call.Call{Op: 8, A: way(1), B: way(4)})
	s = rung(t, s, 1, []int{4}, 4, 2)
	s = also(s, 0, call.Call{Op: 4, A: way(2), B: way(5)})
	refused(t, s, 0, toRing(2), api.EEMPTY)
	s = rung(t, s, 0, []int{5}, 4, 3)
	s = also(s, 0, call.Call{Op: 6, A: way(5)})
	refused(t, s, 1, toRing(4), api.EEMPTY)
	refused(t, s, 0, toRing(3), api.EEMPTY)
	s = polled(t, s, 0, []int{5}, 4, 3)
	s = also(rung(t, s, 0, []int{5}, 4, 1), 0, call.Call{Op: 5, A: way(5)})
	refused(t, s, 0, toPoll(5), api.EEMPTY)
	// a new one does not ring by what an old one rang by.
	s = also(s, 0, call.Call{Op: 1, A: way(0), B: way(5), X: 4})
	refused(t, s, 0, toPoll(5), api.EVOID)
}

// What ways lead nowhere, or to a slot in which nothing is, or what may not be used so.
func TestWaysThatAreRefused(t *testing.T) {
	s := rich(t)
	for _, c := range []struct {
		thread     int
		l          []int
		ring, poll api.Errno
	}{
		{0, []int{8}, 3, 3}, {0, []int{15}, 3, 3}, {0, []int{0, 0}, 3, 3}, {0, []int{1, 0}, 3, 3}, {0, []int{3, 0}, 3, 3}, {0, []int{6, 0}, 3, 3}, {0, []int{2, 2, 2}, 3, 3}, {0, []int{2, 0, 0}, 3, 3}, {0, []int{2, 4, 0}, 3, 3}, {0, []int{2, 13, 0}, 3, 3}, {0, []int{2, 3, 4}, 3, 3},
		{1, []int{3, 0}, 3, 3}, {1, []int{3, 1}, 3, 3}, {1, []int{0, 0}, 3, 3}, {1, []int{9}, 3, 3},
		{0, []int{6}, 4, 4}, {0, []int{7}, 4, 4}, {0, []int{2, 13}, 4, 4}, {0, []int{2, 15}, 4, 4}, {0, []int{2, 2, 1}, 4, 4}, {0, []int{2, 3, 3}, 4, 4}, {1, []int{0}, 4, 4}, {1, []int{7}, 4, 4}, {1, []int{2, 3, 3}, 4, 4},
		{0, []int{0}, 7, 7}, {0, []int{1}, 7, 7}, {0, []int{2}, 7, 7}, {0, []int{5}, 7, 7}, {0, []int{2, 1}, 7, 7}, {0, []int{2, 2}, 7, 7}, {0, []int{2, 2, 0}, 7, 7}, {0, []int{2, 8}, 7, 7}, {0, []int{2, 9}, 7, 7}, {0, []int{2, 10}, 7, 7}, {1, []int{1}, 7, 7}, {1, []int{2}, 7, 7}, {1, []int{3}, 7, 7}, {1, []int{2, 9}, 7, 7},
		{0, []int{2, 0}, 6, 14}, {0, []int{2, 12}, 6, 6}, {0, []int{2, 3, 1}, 0, 6}, {0, []int{2, 3, 2}, 6, 0}, {1, []int{4}, 0, 6}, {1, []int{5}, 6, 0}, {1, []int{6}, 6, 6}, {1, []int{2, 0}, 6, 14}, {1, []int{2, 3, 1}, 0, 6},
	} {
		if _, r := check(t, s, c.thread, toRing(c.l...)); r.Err != c.ring {
			t.Errorf("P19.1: ring of what %d leads to: %d, want %d", c.l, r.Err, c.ring)
		}
		if _, r := check(t, s, c.thread, toPoll(c.l...)); r.Err != c.poll {
			t.Errorf("P19.1: poll of what %d leads to: %d, want %d", c.l, r.Err, c.poll)
		}
	}
}
