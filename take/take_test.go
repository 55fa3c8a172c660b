package take_test

import (
	"math"
	"slices"
	"testing"

	"reeve/api"
	"reeve/call"
	"reeve/cap"
	"reeve/carve"
	"reeve/find"
	"reeve/forest"
	"reeve/geo"
	"reeve/give"
	"reeve/path"
	"reeve/state"
	"reeve/take"
	"reeve/thing"
)

func TestTheGivenNumbers(t *testing.T) {
	if api.Room != 1 || api.Node != 2 || api.Mail != 3 || api.Bell != 4 || api.Leaf != 5 || api.Read != 1 || api.All != 7 || api.MaxBadge != 65535 || api.MaxSlots != 96 || api.MaxThings != 48 || api.MaxThreads != 4 || api.RootBits != 3 {
		t.Errorf("the tests' numbers are not api's")
	}
	if api.EARG != 1 || api.EPATH != 3 || api.EEMPTY != 4 {
		t.Errorf("the tests' errors are not api's")
	}
}

// rich has two threads. In thread 0's root (slots 0 to 7): room 0, box 1, node 4 (slots 16 to 31), bell 5, leaf 6, box 1 with badge 9 that came of slot 1, nothing at 6 and 7.
// In thread 1's root (slots 8 to 15): box 1 at 1, node 4 to be read alone at 2, node 7 (slots 32, 33) without Read at 3, room 8 without Write at 4, bell 5 without rights and with badge 65535 at 5, nothing at 0, 6 and 7.
// In node 4: box 1 with badge 9 that came of slot 5, leaf 6 without rights, node 7, node 9 (slots 34 to 37), five full boxes that hand on slots 3, 3, 2, 4 and nothing, bell 5 that came of slot 3, and one with badge 7 that came of that, nothing from 11 on.
// In node 7: node 11 (slots 40, 41), too deep to go on; nothing at 1. In node 9: box 1 that came of slot 9; nothing from 1 on. In node 11 nothing.
func rich(t *testing.T) state.State {
	t.Helper()
	s := first(2)
	s.Things[0].Used = 60
	for i, x := range map[int]thing.Thing{
		4: {Type: 2, Bits: 4, Base: 16}, 5: {Type: 4, Word: 8}, 6: {Type: 5, Data: [4]uint64{1, 2, 3, 4}}, 7: {Type: 2, Bits: 1, Base: 32},
		8: {Type: 1, Size: 40, Used: 7}, 9: {Type: 2, Bits: 2, Base: 34}, 11: {Type: 2, Bits: 1, Base: 40}, 10: boxOf(3), 12: boxOf(3), 13: boxOf(2), 14: boxOf(4), 15: boxOf(-1),
	} {
		s.Things[i] = x
	}
	for i, x := range map[int]state.Slot{
		2: slot(2, 4, 7, 0, 0), 3: slot(4, 5, 7, 0, 0), 4: slot(5, 6, 7, 0, 0), 5: slot(3, 1, 3, 9, 1),
		10: slot(2, 4, 1, 0, 2), 11: slot(2, 7, 6, 0, 18), 12: slot(1, 8, 5, 0, 0), 13: slot(4, 5, 0, 65535, 3),
		16: slot(3, 1, 1, 9, 5), 17: slot(5, 6, 0, 0, 4), 18: slot(2, 7, 7, 0, 0), 19: slot(2, 9, 7, 0, 0),
		20: slot(3, 10, 7, 0, 0), 21: slot(3, 12, 7, 0, 0), 22: slot(3, 13, 7, 0, 0), 23: slot(3, 14, 7, 0, 0), 24: slot(3, 15, 7, 0, 0),
		25: slot(4, 5, 3, 0, 3), 26: slot(4, 5, 1, 7, 25), 32: slot(2, 11, 7, 0, 0), 34: slot(3, 1, 7, 0, 9),
	} {
		s.Slots[i] = x
	}
	return fine(t, s)
}

// boxOf is a full box that hands on what is in a slot; of -1: a word alone.
func boxOf(slot int) thing.Thing {
	return thing.Thing{Type: 3, Full: true, Word: 77, Badge: 5, From: slot + 1}
}

// fine holds a state of the tests to be one that may be.
func fine(t *testing.T, s state.State) state.State {
	t.Helper()
	if !state.Good(s) {
		t.Fatalf("the tests' state may not be: %s", tell(s))
	}
	return s
}

// changed is a state, changed in some places, which must be one that may be.
func changed(t *testing.T, s state.State, change func(s *state.State)) state.State {
	t.Helper()
	s = copyOf(s)
	change(&s)
	return fine(t, s)
}

// refused holds a call that must be refused against its error, in numbers: beside it nothing is told, and the state is as it was.
func refused(t *testing.T, s state.State, thread int, c call.Call, want api.Errno) {
	t.Helper()
	next, r := check(t, s, thread, c)
	if r.Err != want || r.W != 0 || r.N != 0 || !state.Same(next, s) {
		t.Errorf("P17.1: Do(%d, %s): %+v, want the error %d alone, and %s as it was", thread, short(c), r, want, tell(s))
	}
}

// goes holds a call that must go well: its answer tells how many slots were emptied, alone.
func goes(t *testing.T, s state.State, thread int, c call.Call, many int) state.State {
	t.Helper()
	next, r := check(t, s, thread, c)
	if r.Err != 0 || r.W != 0 || r.N != many {
		t.Errorf("P17.1: Do(%d, %s): %+v, want N %d alone, of %s", thread, short(c), r, many, tell(s))
	}
	return next
}

// empties holds Empty of a state that may be against how many slots it must tell.
func empties(t *testing.T, s state.State, l []int, many int) state.State {
	t.Helper()
	next, n := checkEmpty(t, s, l)
	if n != many {
		t.Errorf("P17.1: Empty(%d): %d, want %d, of %s", l, n, many, tell(s))
	}
	return next
}

// alike holds a state behind a call against the one ahead of it, changed in some places.
func alike(t *testing.T, got, was state.State, change func(s *state.State)) {
	t.Helper()
	was = copyOf(was)
	change(&was)
	if !state.Same(got, was) {
		t.Errorf("P17.1: %s, want %s", tell(got), tell(was))
	}
}

// change is what a call does, in numbers: which slots are emptied, what some came of then, which things are gone, which boxes hand on nothing then.
type change struct {
	slots, gone, boxes []int
	ups                map[int]int
}

func (c change) of(s *state.State) {
	for _, i := range c.slots {
		s.Slots[i] = bare()
	}
	for i, up := range c.ups {
		s.Slots[i].Up = up
	}
	for _, i := range c.gone {
		s.Things[i] = thing.Thing{}
	}
	for _, i := range c.boxes {
		s.Things[i].From = 0
	}
}

// upsOf is what some slots came of: all of one.
func upsOf(up int, l ...int) map[int]int {
	m := map[int]int{}
	for _, i := range l {
		m[i] = up
	}
	return m
}

// Revoke of what was copied twice: both from it, or the one from the other.
func TestTheExample(t *testing.T) {
	for _, second := range []int{1, 2} {
		s, _ := state.New(geo.Plain(), 64)
		s, _ = take.Do(s, 1, call.Call{Op: 5, A: path.Path{L: []int{1}}})
		s, _ = give.Do(s, 0, call.Call{Op: 2, A: path.Path{L: []int{1}}, B: path.Path{L: []int{2}}, X: api.All})
		s, _ = give.Do(s, 0, call.Call{Op: 2, A: path.Path{L: []int{second}}, B: path.Path{L: []int{3}}, X: api.All})
		next, r := take.Do(s, 0, call.Call{Op: 6, A: path.Path{L: []int{1}}})
		if r != (state.Reply{N: 2}) || next.Slots[2] != bare() || next.Slots[3] != bare() || next.Slots[1] != s.Slots[1] || s.Slots[3].Up != second {
			t.Errorf("P17.1: revoke of what was copied twice: %+v, %s", r, tell(next))
		}
	}
}

// Each slot of rich, by ways of either thread.
func TestDeletes(t *testing.T) {
	s := rich(t)
	for _, c := range []struct {
		thread int
		a      []int
		many   int
		change
	}{
		{0, []int{0}, 1, change{slots: []int{0}, gone: []int{0}, ups: upsOf(-1, 2, 3, 4, 12, 18, 19, 20, 21, 22, 23, 24, 32)}},
		{0, []int{1}, 1, change{slots: []int{1}, ups: upsOf(-1, 5, 9)}},
		{0, []int{2}, 1, change{slots: []int{2}, ups: upsOf(0, 10), boxes: []int{13}}},
		{0, []int{3}, 1, change{slots: []int{3}, ups: upsOf(0, 13, 25), boxes: []int{10, 12}}},
		{0, []int{4}, 1, change{slots: []int{4}, ups: upsOf(0, 17), boxes: []int{14}}},
		{0, []int{5}, 1, change{slots: []int{5}, ups: upsOf(1, 16)}},
		{0, []int{2, 0}, 1, change{slots: []int{16}}},
		{0, []int{2, 1}, 1, change{slots: []int{17}}},
		{0, []int{2, 2}, 1, change{slots: []int{18}, ups: upsOf(0, 11)}},
		{0, []int{2, 3}, 2, change{slots: []int{19, 34}, gone: []int{9}}},
		{0, []int{2, 4}, 1, change{slots: []int{20}, gone: []int{10}}},
		{0, []int{2, 5}, 1, change{slots: []int{21}, gone: []int{12}}},
		{0, []int{2, 6}, 1, change{slots: []int{22}, gone: []int{13}}},
		{0, []int{2, 7}, 1, change{slots: []int{23}, gone: []int{14}}},
		{0, []int{2, 8}, 1, change{slots: []int{24}, gone: []int{15}}},
		{0, []int{2, 9}, 1, change{slots: []int{25}, ups: upsOf(3, 26)}},
		{0, []int{2, 10}, 1, change{slots: []int{26}}},
		{0, []int{2, 2, 0}, 1, change{slots: []int{32}, gone: []int{11}}},
		{0, []int{2, 3, 0}, 1, change{slots: []int{34}}},
		{1, []int{1}, 1, change{slots: []int{9}, ups: upsOf(1, 34)}},
		{1, []int{2}, 1, change{slots: []int{10}}},
		{1, []int{3}, 1, change{slots: []int{11}}},
		{1, []int{4}, 1, change{slots: []int{12}, gone: []int{8}}},
		{1, []int{5}, 1, change{slots: []int{13}}},
		{1, []int{2, 2}, 1, change{slots: []int{18}, ups: upsOf(0, 11)}},
		{1, []int{2, 3}, 2, change{slots: []int{19, 34}, gone: []int{9}}},
		{1, []int{2, 9}, 1, change{slots: []int{25}, ups: upsOf(3, 26)}},
	} {
		alike(t, goes(t, s, c.thread, toDelete(c.a...), c.many), s, c.change.of)
	}
}

// All that came of each slot of rich; the slot itself stays where nothing else takes it along.
func TestRevokes(t *testing.T) {
	s := rich(t)
	for _, c := range []struct {
		thread int
		a      []int
		many   int
		change
	}{
		{0, []int{0}, 20, change{slots: []int{2, 3, 4, 10, 11, 12, 13, 16, 17, 18, 19, 20, 21, 22, 23, 24, 25, 26, 32, 34}, gone: []int{4, 5, 6, 7, 8, 9, 10, 11, 12, 13, 14, 15}}},
		{0, []int{1}, 4, change{slots: []int{5, 9, 16, 34}}},
		{0, []int{2}, 1, change{slots: []int{10}}},
		{0, []int{3}, 3, change{slots: []int{13, 25, 26}}},
		{0, []int{4}, 1, change{slots: []int{17}}},
		{0, []int{5}, 1, change{slots: []int{16}}},
		{0, []int{2, 2}, 1, change{slots: []int{11}}},
		{0, []int{2, 9}, 1, change{slots: []int{26}}},
		{1, []int{1}, 1, change{slots: []int{34}}},
		{1, []int{2, 2}, 1, change{slots: []int{11}}},
		{1, []int{2, 9}, 1, change{slots: []int{26}}},
	} {
		next := goes(t, s, c.thread, toRevoke(c.a...), c.many)
		alike(t, next, s, c.change.of)
		alike(t, goes(t, next, c.thread, toRevoke(c.a...), 0), next, func(s *state.State) {})
	}
	for _, a := range [][]int{{2, 0}, {2, 1}, {2, 3}, {2, 4}, {2, 8}, {2, 10}, {2, 2, 0}, {2, 3, 0}} {
		alike(t, goes(t, s, 0, toRevoke(a...), 0), s, func(s *state.State) {})
	}
	for _, a := range [][]int{{2}, {3}, {4}, {5}, {2, 10}, {2, 3, 0}} {
		alike(t, goes(t, s, 1, toRevoke(a...), 0), s, func(s *state.State) {})
	}
}

// kindAt is the first state with a capability of a kind in slot 5, and with another one in slot 6 that came of it, if it is asked for.
func kindAt(t *testing.T, kind, rights, badge int, copied bool) state.State {
	t.Helper()
	return changed(t, first(2), func(s *state.State) {
		s.Things[4] = []thing.Thing{{}, {Type: 1, Size: 9, Used: 3}, {Type: 2, Bits: 2, Base: 16}, {Type: 3, Full: true, Word: 9, Badge: 8, From: 10}, {Type: 4, Word: 3}, {Type: 5, Data: [4]uint64{1, 2, 3, 4}}}[kind]
		s.Slots[5] = slot(kind, 4, rights, badge, 0)
		if copied {
			s.Slots[6] = slot(kind, 4, 0, badge, 5)
		}
	})
}

// Of each kind, of whatever rights and badge, with none: the thing stays as it is while a slot has it, and is nothing when none has it any more.
func TestEachKind(t *testing.T) {
	for kind := 1; kind <= 5; kind++ {
		for rights := range 8 {
			for _, badge := range []int{0, 1, 65535} {
				if badge > 0 && kind != 3 && kind != 4 {
					continue
				}
				one, two := kindAt(t, kind, rights, badge, false), kindAt(t, kind, rights, badge, true)
				last := change{slots: []int{5}, gone: []int{4}}.of
				alike(t, goes(t, one, 0, toDelete(5), 1), one, last)
				alike(t, goes(t, one, 0, toRevoke(5), 0), one, func(s *state.State) {})
				alike(t, goes(t, two, 0, toRevoke(5), 1), one, func(s *state.State) {})
				alike(t, goes(t, two, 0, toDelete(6), 1), one, func(s *state.State) {})
				alike(t, goes(t, goes(t, two, 0, toDelete(6), 1), 0, toDelete(5), 1), one, last)
				next := goes(t, two, 0, toDelete(5), 1)
				alike(t, next, two, change{slots: []int{5}, ups: upsOf(0, 6)}.of)
				alike(t, goes(t, next, 0, toDelete(6), 1), one, last)
				alike(t, goes(t, two, 0, toRevoke(0), 2), one, last)
			}
		}
	}
}

// chain is the first state with copies of its box in slots 2 to 7, each come of the one ahead; the second thread has none.
func chain(t *testing.T) state.State {
	t.Helper()
	return changed(t, first(2), func(s *state.State) {
		s.Slots[9] = bare()
		for i := 2; i < 8; i++ {
			s.Slots[i] = slot(3, 1, 7, 0, i-1)
		}
	})
}

// What came of several that are emptied comes of the first above them that is left, in whatever order they are told.
func TestOfSeveral(t *testing.T) {
	s := chain(t)
	for _, c := range []struct {
		l   []int
		ups map[int]int
	}{
		{[]int{2}, upsOf(1, 3)}, {[]int{2, 3}, upsOf(1, 4)}, {[]int{3, 4, 5}, upsOf(2, 6)}, {[]int{2, 3, 4, 5, 6}, upsOf(1, 7)}, {[]int{1, 2, 3, 4, 5, 6}, upsOf(-1, 7)}, {[]int{1}, upsOf(-1, 2)}, {[]int{1, 2}, upsOf(-1, 3)},
		{[]int{2, 4, 6}, map[int]int{3: 1, 5: 3, 7: 5}}, {[]int{1, 3, 5}, map[int]int{2: -1, 4: 2, 6: 4}}, {[]int{2, 3, 5, 6}, map[int]int{4: 1, 7: 4}}, {[]int{6, 7}, nil}, {[]int{7}, nil}, {[]int{1, 7}, upsOf(-1, 2)},
	} {
		turned := slices.Clone(c.l)
		slices.Reverse(turned)
		mixed := append(slices.Clone(c.l[len(c.l)/2:]), c.l[:len(c.l)/2]...)
		for _, l := range [][]int{c.l, turned, mixed, append(slices.Clone(c.l), turned...), append(mixed, 8, 9, 10, 40, 95)} {
			alike(t, empties(t, s, l, len(c.l)), s, change{slots: c.l, ups: c.ups}.of)
		}
	}
	alike(t, empties(t, s, []int{7, 1, 6, 2, 5, 3, 4}, 7), s, change{slots: []int{1, 2, 3, 4, 5, 6, 7}, gone: []int{1}}.of)
	// of one with many kids, all of them; of others' kids none.
	wide := changed(t, s, func(s *state.State) {
		s.Slots[3].Up, s.Slots[4].Up, s.Slots[5].Up, s.Slots[6].Up, s.Slots[7].Up = 2, 2, 3, 3, 4
	})
	alike(t, goes(t, wide, 0, toDelete(2), 1), wide, change{slots: []int{2}, ups: upsOf(1, 3, 4)}.of)
	alike(t, goes(t, wide, 0, toDelete(3), 1), wide, change{slots: []int{3}, ups: upsOf(2, 5, 6)}.of)
	alike(t, empties(t, wide, []int{3, 2}, 2), wide, change{slots: []int{2, 3}, ups: upsOf(1, 4, 5, 6)}.of)
	alike(t, empties(t, wide, []int{2, 4}, 2), wide, change{slots: []int{2, 4}, ups: upsOf(1, 3, 7)}.of)
	alike(t, goes(t, wide, 0, toRevoke(2), 5), wide, change{slots: []int{3, 4, 5, 6, 7}}.of)
	alike(t, goes(t, wide, 0, toRevoke(3), 2), wide, change{slots: []int{5, 6}}.of)
}

// Numbers that are no slots, slots that nothing is in, or that no Node has, and such as were told already, do not count.
func TestWhatDoesNotCount(t *testing.T) {
	s := rich(t)
	for _, l := range [][]int{nil, {}, {6}, {6, 7, 8, 14, 15, 27, 31, 33, 35, 37, 41}, {38, 39, 42, 94, 95}, {96}, far(), make([]int, 0, 9)} {
		alike(t, empties(t, s, l, 0), s, func(s *state.State) {})
	}
	three := change{slots: []int{3}, ups: upsOf(0, 13, 25), boxes: []int{10, 12}}.of
	for _, l := range [][]int{{3}, {3, 3}, {6, 3, 6}, append(far(), 3), append([]int{3}, far()...), {95, 3, 96, 3, 95}, slices.Repeat([]int{3}, 1<<16), {3 + 1<<32, 3, 3 + 1<<8}} {
		alike(t, empties(t, s, l, 1), s, three)
	}
	// 34 goes with 19, whether it is told or not, ahead or behind.
	for _, l := range [][]int{{19}, {19, 34}, {34, 19}, {34, 19, 34, 19}, {19, 35, 34}} {
		alike(t, empties(t, s, l, 2), s, change{slots: []int{19, 34}, gone: []int{9}}.of)
	}
	small := first(1)
	small.Geo.Slots, small.Slots = 16, small.Slots[:16]
	for _, l := range [][]int{{16}, {17, 32}, {95, 96}, {-1}, {15}} {
		alike(t, empties(t, fine(t, small), l, 0), small, func(s *state.State) {})
	}
}

// A box that handed on what is emptied hands on nothing then, and keeps its word and badge; others stay as they are.
func TestBoxes(t *testing.T) {
	s := rich(t)
	next := goes(t, s, 0, toDelete(3), 1)
	for i, want := range map[int]thing.Thing{10: boxOf(-1), 12: boxOf(-1), 13: boxOf(2), 14: boxOf(4), 15: boxOf(-1)} {
		if next.Things[i] != want {
			t.Errorf("P17.1: box %d behind delete 3: %+v, want %+v", i, next.Things[i], want)
		}
	}
	// of what is revoked, and of what goes with a node.
	s = changed(t, s, func(s *state.State) {
		s.Things[10].From, s.Things[12].From, s.Things[13].From, s.Things[14].From = 13+1, 26+1, 34+1, 12+1
	})
	alike(t, goes(t, s, 0, toRevoke(3), 3), s, change{slots: []int{13, 25, 26}, boxes: []int{10, 12}}.of)
	alike(t, goes(t, s, 0, toDelete(2, 3), 2), s, change{slots: []int{19, 34}, gone: []int{9}, boxes: []int{13}}.of)
	alike(t, goes(t, s, 1, toRevoke(1), 1), s, change{slots: []int{34}, boxes: []int{13}}.of)
	alike(t, goes(t, s, 1, toDelete(4), 1), s, change{slots: []int{12}, gone: []int{8}, boxes: []int{14}}.of)
	// a box that hands on its own capability: it goes, or, if it is held elsewhere, it hands on nothing.
	own := changed(t, s, func(s *state.State) { s.Things[10].From = 20 + 1 })
	alike(t, goes(t, own, 0, toDelete(2, 4), 1), own, change{slots: []int{20}, gone: []int{10}}.of)
	own = changed(t, own, func(s *state.State) { s.Slots[6] = slot(3, 10, 3, 0, 20) })
	alike(t, goes(t, own, 0, toDelete(2, 4), 1), own, change{slots: []int{20}, boxes: []int{10}, ups: upsOf(0, 6)}.of)
	alike(t, goes(t, own, 0, toDelete(6), 1), own, change{slots: []int{6}}.of)
}

// Slots 0 and 95, the first and the last that there may be: From 0 tells of none of them.
func TestBoxesThatHandOnTheFirstSlotAndTheLast(t *testing.T) {
	s := changed(t, first(1), func(s *state.State) {
		s.Things[1] = boxOf(95)
		s.Things[3], s.Things[4], s.Things[5], s.Things[6] = thing.Thing{Type: 2, Bits: 4, Base: 80}, boxOf(0), boxOf(-1), boxOf(1)
		s.Slots[2], s.Slots[3], s.Slots[4], s.Slots[5] = slot(2, 3, 7, 0, 0), slot(3, 4, 7, 0, 0), slot(3, 5, 7, 0, 0), slot(3, 6, 7, 0, 0)
		s.Slots[95] = slot(3, 1, 7, 0, 1)
	})
	for _, c := range []struct {
		a    []int
		many int
		want [4]int // of things 1, 4, 5, 6
	}{{[]int{0}, 1, [4]int{96, 0, 0, 2}}, {[]int{1}, 1, [4]int{96, 1, 0, 0}}, {[]int{2, 15}, 1, [4]int{0, 1, 0, 2}}, {[]int{2}, 2, [4]int{0, 1, 0, 2}}, {[]int{4}, 1, [4]int{96, 1, 0, 2}}} {
		next := goes(t, s, 0, toDelete(c.a...), c.many)
		if got := [4]int{next.Things[1].From, next.Things[4].From, next.Things[5].From, next.Things[6].From}; got != c.want {
			t.Errorf("P17.1: From behind delete %d: %d, want %d", c.a, got, c.want)
		}
	}
}

// A node that some slot has stays whole; the last one takes along all that is in it, and so on.
func TestNodes(t *testing.T) {
	s := rich(t)
	all := change{slots: []int{2, 10, 16, 17, 18, 19, 20, 21, 22, 23, 24, 25, 26, 34}, gone: []int{4, 9, 10, 12, 13, 14, 15}, ups: upsOf(0, 11)}.of
	alike(t, goes(t, goes(t, s, 0, toDelete(2), 1), 1, toDelete(2), 13), s, all)
	alike(t, goes(t, goes(t, s, 1, toDelete(2), 1), 0, toDelete(2), 13), s, all)
	alike(t, goes(t, goes(t, s, 0, toRevoke(2), 1), 0, toDelete(2), 13), s, all)
	// node 7 goes with it, and node 11 with that, if nobody else has it.
	alike(t, empties(t, s, []int{2, 10, 11}, 16), s, change{slots: []int{2, 10, 11, 16, 17, 18, 19, 20, 21, 22, 23, 24, 25, 26, 32, 34}, gone: []int{4, 7, 9, 10, 11, 12, 13, 14, 15}}.of)
	alike(t, empties(t, s, []int{11, 18}, 3), s, change{slots: []int{11, 18, 32}, gone: []int{7, 11}}.of)
	// leaf 6 goes, too, if the node has the last one.
	next := goes(t, s, 0, toDelete(4), 1)
	if got := empties(t, next, []int{10, 2}, 14); got.Things[6] != (thing.Thing{}) || got.Things[5] != s.Things[5] {
		t.Errorf("P17.1: things 5 and 6 are %+v, %+v", got.Things[5], got.Things[6])
	}
	// what came of what goes with a node comes of the first above it that is left: 8 of 17's slot, 17 of 4's.
	next = changed(t, s, func(s *state.State) { s.Slots[8], s.Slots[14] = slot(5, 6, 0, 0, 17), slot(4, 5, 1, 7, 26) })
	alike(t, empties(t, next, []int{10, 2}, 14), next, change{slots: []int{2, 10, 16, 17, 18, 19, 20, 21, 22, 23, 24, 25, 26, 34}, gone: []int{4, 9, 10, 12, 13, 14, 15}, ups: map[int]int{11: 0, 8: 4, 14: 3}}.of)
}

// Nodes of each size, full up to the last slot: the slot behind them, and the one ahead, stay.
func TestNodesOfEachSize(t *testing.T) {
	for bits := 1; bits <= 4; bits++ {
		s := changed(t, first(1), func(s *state.State) {
			s.Things[3], s.Things[4], s.Things[5] = thing.Thing{Type: 2, Bits: 1, Base: 14}, thing.Thing{Type: 2, Bits: bits, Base: 16}, thing.Thing{Type: 2, Bits: 1, Base: 16 + 1<<bits}
			s.Slots[2], s.Slots[3], s.Slots[4] = slot(2, 3, 7, 0, 0), slot(2, 4, 7, 0, 0), slot(2, 5, 7, 0, 0)
			for i := range 4 + 1<<bits {
				s.Slots[14+i] = slot(3, 1, 7, 0, 1)
			}
		})
		next := goes(t, s, 0, toDelete(3), 1+1<<bits)
		alike(t, next, s, func(s *state.State) {
			s.Slots[3], s.Things[4] = bare(), thing.Thing{}
			for i := range 1 << bits {
				s.Slots[16+i] = bare()
			}
		})
	}
}

// As many nodes in nodes as there may be: all go with the first.
func TestNodesInNodes(t *testing.T) {
	g := geo.Geo{Threads: 1, Slots: 96, Things: 48}
	s, _ := state.New(g, 64)
	at := 2
	for i := range 44 {
		s.Things[3+i] = thing.Thing{Type: 2, Bits: 1, Base: 94 - 2*i}
		s.Slots[at] = slot(2, 3+i, 7, 0, 0)
		s.Slots[95-2*i] = slot(3, 1, 1, 0, 1)
		at = 94 - 2*i
	}
	fine(t, s)
	next := goes(t, s, 0, toDelete(2), 88)
	fresh, _ := state.New(g, 64)
	alike(t, next, fresh, func(s *state.State) {})
	alike(t, goes(t, s, 0, toRevoke(0), 88), fresh, func(s *state.State) {})
	alike(t, goes(t, s, 0, toRevoke(1), 44), s, func(s *state.State) {
		for i := range 44 {
			s.Slots[95-2*i] = bare()
		}
	})
	half := goes(t, s, 0, toDelete(2, 0, 0), 84)
	if half.Things[4] != s.Things[4] || half.Things[5] != (thing.Thing{}) || half.Things[46] != (thing.Thing{}) {
		t.Errorf("P17.1: delete of a node in a node: %s", tell(half))
	}
}

// A node that two nodes have goes with the second of them alone; one that is in a node twice goes with that.
func TestNodesThatSeveralHave(t *testing.T) {
	s := changed(t, first(1), func(s *state.State) {
		s.Things[3], s.Things[4], s.Things[5] = thing.Thing{Type: 2, Bits: 1, Base: 16}, thing.Thing{Type: 2, Bits: 1, Base: 18}, thing.Thing{Type: 2, Bits: 2, Base: 20}
		s.Slots[2], s.Slots[3] = slot(2, 3, 7, 0, 0), slot(2, 4, 7, 0, 0)
		s.Slots[16], s.Slots[18], s.Slots[19] = slot(2, 5, 7, 0, 0), slot(2, 5, 3, 0, 16), slot(2, 5, 1, 0, 18)
		s.Slots[20], s.Slots[23] = slot(3, 1, 7, 0, 1), slot(3, 1, 7, 0, 20)
	})
	one := goes(t, s, 0, toDelete(2), 2)
	alike(t, one, s, change{slots: []int{2, 16}, gone: []int{3}, ups: upsOf(0, 18)}.of)
	both := change{slots: []int{2, 3, 16, 18, 19, 20, 23}, gone: []int{3, 4, 5}}.of
	alike(t, goes(t, one, 0, toDelete(3), 5), s, both)
	other := goes(t, s, 0, toDelete(3), 3)
	alike(t, other, s, change{slots: []int{3, 18, 19}, gone: []int{4}}.of)
	alike(t, goes(t, other, 0, toDelete(2), 4), s, both)
	alike(t, empties(t, s, []int{3, 2}, 7), s, both)
	alike(t, goes(t, s, 0, toRevoke(2, 0), 2), s, change{slots: []int{18, 19}}.of)
}

// A revoke takes along its own slot, if that stands in what goes.
func TestRevokesThatTakeTheirOwnSlot(t *testing.T) {
	s := rich(t)
	inside, _ := give.Do(s, 0, call.Call{Op: 4, A: way(0), B: way(2, 11)})
	alike(t, goes(t, inside, 0, toRevoke(2, 11), 21), s, func(s *state.State) {
		for i := range s.Slots {
			if i != 1 && i != 5 && i != 9 {
				s.Slots[i] = bare()
			}
		}
		for i := range s.Things {
			if i < 1 || i > 3 {
				s.Things[i] = thing.Thing{}
			}
		}
	})
	// by the second thread's way to it, too.
	goes(t, inside, 1, toRevoke(2, 11), 21)
	// a box of that room alone goes with it, not what came of another room.
	other := changed(t, inside, func(s *state.State) { s.Slots[3].Up = -1 })
	next := goes(t, other, 0, toRevoke(2, 11), 19)
	if next.Slots[3] != other.Slots[3] || next.Slots[13] != other.Slots[13] || next.Things[5] != other.Things[5] || next.Slots[27] != bare() || next.Slots[25] != bare() {
		t.Errorf("P17.1: revoke of a room within its node: %s", tell(next))
	}
}

// A thread's root stays, and what is in it, also where the only capability of it is emptied.
func TestRoots(t *testing.T) {
	s := changed(t, rich(t), func(s *state.State) { s.Slots[6], s.Slots[8] = slot(2, 3, 7, 0, -1), slot(2, 7, 7, 0, -1) })
	alike(t, goes(t, s, 0, toDelete(6), 1), s, change{slots: []int{6}}.of)
	alike(t, goes(t, s, 0, toDelete(6, 0), 1), s, change{slots: []int{8}}.of)
	for threads := 1; threads <= 4; threads++ {
		s := changed(t, first(threads), func(s *state.State) {
			s.Things[6] = thing.Thing{Type: 2, Bits: 3, Base: 40}
			s.Slots[7] = slot(2, 6, 7, 0, 0)
			for i := 1; i < threads; i++ {
				s.Slots[40+i] = slot(2, 2+i, 7, 0, -1)
			}
		})
		next := goes(t, s, 0, toDelete(7), threads)
		alike(t, next, first(threads), func(s *state.State) {})
		for thread := range threads {
			if at, e := find.Slot(next, thread, way(1)); e != api.OK || at != 8*thread+1 {
				t.Errorf("P17.1: thread %d's way behind it: %d, %d", thread, at, e)
			}
		}
	}
	// thing 2 and on are roots as many as there are threads: the next one goes.
	s = changed(t, first(1), func(s *state.State) {
		s.Things[3], s.Slots[5], s.Slots[17] = thing.Thing{Type: 2, Bits: 3, Base: 16}, slot(2, 3, 7, 0, 0), slot(3, 1, 7, 0, 1)
	})
	alike(t, goes(t, s, 0, toDelete(5), 2), s, change{slots: []int{5, 17}, gone: []int{3}}.of)
}

// All slots at once, and one by one: nothing but the roots is left.
func TestAllGoes(t *testing.T) {
	s := rich(t)
	var all []int
	for i := range 96 {
		all = append(all, i)
	}
	back := slices.Clone(all)
	slices.Reverse(back)
	nothing := func(s *state.State) {
		*s = state.State{Geo: s.Geo, Slots: slices.Repeat([]state.Slot{bare()}, 96), Things: make([]thing.Thing, 20)}
		s.Things[2], s.Things[3] = thing.Thing{Type: 2, Bits: 3, Base: 0}, thing.Thing{Type: 2, Bits: 3, Base: 8}
	}
	alike(t, empties(t, s, all, 24), s, nothing)
	alike(t, empties(t, s, back, 24), s, nothing)
	for _, l := range [][]int{all, back} {
		next, sum := s, 0
		for _, i := range l {
			got, n := checkEmpty(t, next, []int{i})
			next, sum = got, sum+n
		}
		alike(t, next, s, nothing)
		if sum != 24 {
			t.Errorf("P17.1: one by one %d were emptied, want 24", sum)
		}
	}
}

// What was taken away makes place: numbers, slots, and a room's are as new.
func TestPlaceIsFree(t *testing.T) {
	s := rich(t)
	next := goes(t, s, 0, toRevoke(0), 20)
	if n := state.Free(next); n != 4 {
		t.Errorf("P17.1: Free behind revoke 0: %d", n)
	}
	if base, ok := state.Gap(next, 4); base != 16 || !ok {
		t.Errorf("P17.1: Gap behind revoke 0: %d, %t", base, ok)
	}
	if next.Things[0] != (thing.Thing{Type: 1, Size: 64, Used: 60}) || carve.Used(s, 0) != 60 || carve.Used(next, 0) != 0 {
		t.Errorf("P17.1: the room behind revoke 0: %+v, Used %d, ahead of it %d", next.Things[0], carve.Used(next, 0), carve.Used(s, 0))
	}
	made, r := carve.Do(next, 0, call.Call{Op: 1, A: way(0), B: way(2), X: 2, Y: 4})
	if r.Err != api.OK || r.N != 4 || made.Things[0].Used != 16 {
		t.Errorf("P17.1: make behind revoke 0: %+v, %s", r, tell(made))
	}
	if left := goes(t, s, 0, toDelete(2, 4), 1); state.Free(left) != 10 || len(forest.Below(state.Forest(left), 0)) != 17 {
		t.Errorf("P17.1: behind delete 2.4: %s", tell(left))
	}
}

// What ways lead nowhere, or to a slot that nothing is in.
func TestWaysThatAreRefused(t *testing.T) {
	s := rich(t)
	for _, c := range []struct {
		thread int
		l      []int
		want   api.Errno
	}{
		{0, []int{8}, 3}, {0, []int{15}, 3}, {0, []int{0, 0}, 3}, {0, []int{1, 0}, 3}, {0, []int{6, 0}, 3}, {0, []int{2, 2, 2}, 3}, {0, []int{2, 0, 0}, 3}, {0, []int{2, 11, 0}, 3}, {0, []int{2, 3, 4}, 3},
		{1, []int{3, 0}, 3}, {1, []int{3, 1}, 3}, {1, []int{0, 0}, 3}, {1, []int{9}, 3}, {1, []int{2, 2, 15}, 3},
		{0, []int{6}, 4}, {0, []int{7}, 4}, {0, []int{2, 11}, 4}, {0, []int{2, 15}, 4}, {0, []int{2, 2, 1}, 4}, {1, []int{0}, 4}, {1, []int{7}, 4}, {1, []int{2, 15}, 4}, {1, []int{2, 3, 3}, 4},
	} {
		refused(t, s, c.thread, toDelete(c.l...), c.want)
		refused(t, s, c.thread, toRevoke(c.l...), c.want)
	}
}

// Ahead of all: whatever else there is to be refused by, it is EARG.
func TestAheadOfAll(t *testing.T) {
	s := rich(t)
	for _, a := range [][]int{{0}, {1}, {2}, {5}, {6}, {8}, {2, 0}, {2, 11}, {2, 2, 2}, {6, 0}} {
		for _, c := range notGood(a) {
			for thread := -1; thread <= 2; thread++ {
				refused(t, s, thread, c, api.EARG)
			}
		}
		for _, thread := range append(far(), 2, 3, 4) {
			refused(t, s, thread, toDelete(a...), api.EARG)
			refused(t, s, thread, toRevoke(a...), api.EARG)
		}
	}
	for threads := 1; threads <= 4; threads++ {
		for thread := -2; thread < 6; thread++ {
			if thread < 0 || thread >= threads {
				refused(t, first(threads), thread, toDelete(1), api.EARG)
				refused(t, first(threads), thread, toRevoke(1), api.EARG)
				continue
			}
			if next := goes(t, first(threads), thread, toDelete(1), 1); next.Slots[8*thread+1] != bare() {
				t.Errorf("P17.1: Do(%d, delete 1): %s", thread, tell(next))
			}
		}
	}
}

// notGood gives calls by this way that are not Good, or of another Op.
func notGood(a []int) []call.Call {
	var l []call.Call
	for _, op := range []int{5, 6} {
		l = append(l, call.Call{Op: op}, call.Call{Op: op, B: way(a...)}, call.Call{Op: op, A: way(a...), B: way(1)}, call.Call{Op: op, A: way(a...), B: way(a...)}, call.Call{Op: op, A: way(a...), B: way(0, 0, 0, 0)},
			call.Call{Op: op, A: way(a...), X: 1}, call.Call{Op: op, A: way(a...), X: -1}, call.Call{Op: op, A: way(a...), X: 1 << 32}, call.Call{Op: op, A: way(a...), Y: 1}, call.Call{Op: op, A: way(a...), Y: -1}, call.Call{Op: op, A: way(a...), W: 1}, call.Call{Op: op, A: way(a...), W: 1 << 63})
		for _, p := range [][]int{nil, {}, {0, 0, 0, 0}, {2, 2, 0, 0}, {16}, {-1}, {2, 16}, {2, -1}, {1 << 32}, {math.MinInt}, make([]int, 1<<16)} {
			l = append(l, call.Call{Op: op, A: way(p...)})
		}
	}
	l = append(l, call.Call{}, call.Call{Op: 1, A: way(a...), B: way(7), X: 4}, call.Call{Op: 2, A: way(a...), B: way(7), X: 7}, call.Call{Op: 3, A: way(a...), B: way(7), X: 7, Y: 1}, call.Call{Op: 4, A: way(a...), B: way(7)}, call.Call{Op: 7, A: way(a...), W: 4}, call.Call{Op: 8, A: way(a...)},
		call.Call{Op: 9, A: way(a...)}, call.Call{Op: 10, A: way(a...)}, call.Call{Op: 11, A: way(a...), X: 3, W: 4}, call.Call{Op: 12, A: way(a...), X: 3}, call.Call{Op: 13, A: way(a...)})
	for _, op := range []int{-1, 0, 1, 4, 7, 8, 9, 13, 14, 255, 256 + 5, 256 + 6, 5 + 1<<32, 6 + 1<<32, math.MinInt + 5, math.MaxInt} {
		l = append(l, call.Call{Op: op, A: way(a...)})
	}
	return l
}

// notGoodStates gives rich with each clause of what makes a state Good, broken by itself.
func notGoodStates(t *testing.T) []state.State {
	t.Helper()
	var l []state.State
	for i, change := range []func(s *state.State){
		func(s *state.State) { s.Geo.Threads = 3 },
		func(s *state.State) { s.Geo.Threads = 0 },
		func(s *state.State) { s.Geo.Threads = 1 << 32 },
		func(s *state.State) { s.Geo.Slots = 88 },
		func(s *state.State) { s.Geo.Things++ },
		func(s *state.State) { s.Geo = geo.Geo{} },
		func(s *state.State) { s.Slots = s.Slots[:88] },
		func(s *state.State) { s.Slots = append(s.Slots, bare()) },
		func(s *state.State) { s.Slots = nil },
		func(s *state.State) { s.Things = s.Things[:19] },
		func(s *state.State) { s.Things = nil },
		func(s *state.State) { s.Things = make([]thing.Thing, 1<<12) },
		func(s *state.State) { s.Slots[6].Cap.Rights = 1 },
		func(s *state.State) { s.Slots[0].Cap.Rights = 8 },
		func(s *state.State) { s.Slots[0].Cap.Thing = 20 },
		func(s *state.State) { s.Slots[0].Cap.Thing = math.MaxInt },
		func(s *state.State) { s.Slots[1].Cap.Thing = -1 },
		func(s *state.State) { s.Slots[0].Cap.Thing = 16 },
		func(s *state.State) { s.Slots[0].Cap.Badge = 1 },
		func(s *state.State) { s.Slots[1].Cap.Type = 1 },
		func(s *state.State) { s.Slots[5].Cap.Rights = 4; s.Slots[1].Cap.Rights = 3 },
		func(s *state.State) { s.Slots[6].Up = 0 },
		func(s *state.State) { s.Slots[0].Up = 0 },
		func(s *state.State) { s.Slots[2].Up = 6 },
		func(s *state.State) { s.Slots[2].Up = 10 },
		func(s *state.State) { s.Slots[95] = slot(4, 5, 5, 0, -1) },
		func(s *state.State) { s.Things[0].Used = 65 },
		func(s *state.State) { s.Things[0].Word = 1 },
		func(s *state.State) { s.Things[0] = thing.Thing{} },
		func(s *state.State) { s.Things[2] = thing.Thing{} },
		func(s *state.State) { s.Things[3].Base = 54 },
		func(s *state.State) { s.Things[4].Bits = 63 },
		func(s *state.State) { s.Things[4].Bits = -1 },
		func(s *state.State) { s.Things[7].Base = 31 },
		func(s *state.State) { s.Things[7].Base = 95 },
		func(s *state.State) { s.Things[16] = thing.Thing{Type: 4} },
		func(s *state.State) { s.Things[10].From = 7 },
		func(s *state.State) { s.Things[10].From = 97 },
		func(s *state.State) { s.Slots[33] = slot(2, 4, 7, 0, 2) },
		func(s *state.State) { *s = state.State{} },
		func(s *state.State) { *s = state.State{Geo: geo.Plain()} },
	} {
		s := copyOf(rich(t))
		change(&s)
		if state.Good(s) {
			t.Errorf("change %d leaves the state Good", i)
		}
		l = append(l, s)
	}
	return l
}

func TestStatesThatAreNotGood(t *testing.T) {
	for _, s := range notGoodStates(t) {
		for thread := -1; thread <= 3; thread++ {
			for _, a := range [][]int{{1}, {0}, {2}, {5}, {6}, {8}, {2, 0}, {2, 3}} {
				refused(t, s, thread, toDelete(a...), api.EARG)
				refused(t, s, thread, toRevoke(a...), api.EARG)
			}
			refused(t, s, thread, call.Call{}, api.EARG)
			refused(t, s, thread, call.Call{Op: 13, A: way(1)}, api.EARG)
		}
		for _, l := range [][]int{nil, {}, {0}, {1, 2, 3}, {95}, {96, -1, math.MaxInt}, {19}, {2, 10}} {
			if next, n := checkEmpty(t, s, l); n != 0 || !state.Same(next, s) {
				t.Errorf("P17.1: Empty(%d) of what is not Good: %d, %s", l, n, tell(next))
			}
		}
	}
}

// A room below another one that came of it is no call's, but it may be: also there what came of a slot comes of what that came of.
func TestRoomsOfRooms(t *testing.T) {
	s := changed(t, first(1), func(s *state.State) {
		s.Things[4] = thing.Thing{Type: 1, Size: 9}
		s.Slots[0], s.Slots[2], s.Slots[3] = slot(1, 0, 1, 0, -1), slot(1, 4, 7, 0, 0), slot(1, 0, 7, 0, 2)
	})
	next, n := take.Empty(s, []int{2})
	alike(t, next, s, change{slots: []int{2}, gone: []int{4}, ups: upsOf(0, 3)}.of)
	if n != 1 || cap.None(next.Slots[3].Cap) {
		t.Errorf("P17.1: Empty of a room between rooms: %d", n)
	}
}
