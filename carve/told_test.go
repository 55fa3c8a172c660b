package carve_test

import (
	"fmt"
	"math"
	"slices"
	"testing"

	"reeve/api"
	"reeve/call"
	"reeve/cap"
	"reeve/carve"
	"reeve/geo"
	"reeve/path"
	"reeve/state"
	"reeve/thing"
)

// This file is a second telling of the chapter: each refusal by itself, so that of any call it can be told which ones hold at once.

func way(l ...int) path.Path { return path.Path{L: l} }

func slot(kind, t, rights, badge, up int) state.Slot {
	return state.Slot{Cap: cap.Cap{Type: kind, Thing: t, Rights: rights, Badge: badge}, Up: up}
}

// bare is a slot that nothing is in.
func bare() state.Slot { return state.Slot{Up: -1} }

// copyOf is another state, alike, by the tests' own means.
func copyOf(s state.State) state.State {
	return state.State{Geo: s.Geo, Slots: append([]state.Slot{}, s.Slots...), Things: append([]thing.Thing{}, s.Things...)}
}

// tell is a state in a test's message: what is there.
func tell(s state.State) string {
	text := fmt.Sprint(s.Geo, " of ", len(s.Slots), " slots, ", len(s.Things), " things:")
	for i, x := range s.Slots {
		if x != bare() {
			text += fmt.Sprint(" ", i, x)
		}
	}
	for t, x := range s.Things {
		if x.Type != 0 {
			text += fmt.Sprintf(" thing %d: %d, %d bits at %d, %d of %d used;", t, x.Type, x.Bits, x.Base, x.Used, x.Size)
		}
	}
	return text[:min(len(text), 3000)]
}

// short is a call in a test's message: long ways are cut.
func short(c call.Call) string {
	return fmt.Sprintf("{op %d, A %d, B %d, X %d, Y %d, W %d}", c.Op, c.A.L[:min(len(c.A.L), 5)], c.B.L[:min(len(c.B.L), 5)], c.X, c.Y, c.W)
}

// slotsOf gives the slots of a node, in a state that may be; of what is no node: none.
func slotsOf(x thing.Thing) []int {
	var l []int
	for i := range []int{0, 2, 4, 8, 16}[x.Bits] {
		l = append(l, x.Base+i)
	}
	return l
}

// leadTold goes a way that may be, in a state that may be: -1 where it leads to no slot.
func leadTold(s state.State, thread int, l []int) int {
	node, at := s.Things[2+thread], -1
	for i, step := range l {
		if i > 0 {
			c := s.Slots[at].Cap
			if c.Type != 2 || c.Rights%2 == 0 {
				return -1
			}
			node = s.Things[c.Thing]
		}
		if step >= len(slotsOf(node)) {
			return -1
		}
		at = node.Base + step
	}
	return at
}

func wayMayBe(p path.Path) bool {
	for _, step := range p.L {
		if step < 0 || step > 15 {
			return false
		}
	}
	return len(p.L) == 1 || len(p.L) == 2 || len(p.L) == 3
}

// callMayBe tells of a call whether it may be, and is one to make.
func callMayBe(c call.Call) bool {
	return c.Op == 1 && wayMayBe(c.A) && wayMayBe(c.B) && c.X > 0 && c.X < 6 && c.Y > -1 && c.Y < 4097 && c.W == 0
}

// costTold tells what a thing costs: 0 of what may not be.
func costTold(kind, size int) int {
	switch kind {
	case 1:
		return max(size, 0)
	case 2:
		return map[int]int{1: 2, 2: 4, 3: 8, 4: 16}[size]
	case 3, 4:
		return 1
	}
	return 2
}

// owned tells of each slot whether a node has it.
func owned(s state.State) []bool {
	l := make([]bool, len(s.Slots))
	for _, x := range s.Things {
		for _, i := range slotsOf(x) {
			l[i] = true
		}
	}
	return l
}

// gapTold tries each place in turn: -1 where there is none.
func gapTold(s state.State, bits int) int {
	n, has := costTold(2, bits), owned(s)
	for base := range s.Slots {
		if n > 0 && base+n <= len(has) && !slices.Contains(has[base:base+n], true) {
			return base
		}
	}
	return -1
}

func usedTold(s state.State, i int) int {
	if !state.Good(s) || i < 0 || i >= len(s.Slots) || s.Slots[i].Cap.Type != 1 {
		return 0
	}
	for _, x := range s.Slots {
		if x.Up == i {
			return s.Things[s.Slots[i].Cap.Thing].Used
		}
	}
	return 0
}

// view is a call on a state, with what its ways lead to: -1 where they lead nowhere, also of what may not be.
type view struct {
	s        state.State
	thread   int
	c        call.Call
	good     bool
	there    bool // is the thread
	from, to int
}

func look(s state.State, thread int, c call.Call) view {
	v := view{s: s, thread: thread, c: c, good: state.Good(s), from: -1, to: -1}
	v.there = thread >= 0 && thread < s.Geo.Threads
	if v.good && v.there && wayMayBe(c.A) {
		v.from = leadTold(s, thread, c.A.L)
	}
	if v.good && v.there && wayMayBe(c.B) {
		v.to = leadTold(s, thread, c.B.L)
	}
	return v
}

// at is what A leads to: no capability, if it leads nowhere.
func (v view) at() cap.Cap {
	if v.from < 0 {
		return cap.Cap{}
	}
	return v.s.Slots[v.from].Cap
}

// room is the Room that A leads to: of no size, if there is none.
func (v view) room() thing.Thing {
	if v.at().Type != 1 {
		return thing.Thing{}
	}
	return v.s.Things[v.at().Thing]
}

func (v view) want() int { return usedTold(v.s, v.from) + costTold(v.c.X, v.c.Y) }

// refusal is one of the chapter's: each asks for itself alone.
type refusal struct {
	name  string
	e     api.Errno
	holds func(v view) bool
}

// refusals are those, in the chapter's order.
func refusals() []refusal {
	return []refusal{
		{"state", 1, func(v view) bool { return !v.good }},
		{"call", 1, func(v view) bool { return !callMayBe(v.c) }},
		{"thread", 1, func(v view) bool { return !v.there }},
		{"no slot A", 3, func(v view) bool { return v.good && v.there && wayMayBe(v.c.A) && v.from < 0 }},
		{"nothing at A", 4, func(v view) bool { return v.from >= 0 && v.at() == cap.Cap{} }},
		{"no Room's", 7, func(v view) bool { return v.at() != cap.Cap{} && v.at().Type != 1 }},
		{"no Write", 6, func(v view) bool { return v.at() != cap.Cap{} && v.at().Rights/2%2 == 0 }},
		{"no slot B", 3, func(v view) bool { return v.good && v.there && wayMayBe(v.c.B) && v.to < 0 }},
		{"taken", 5, func(v view) bool { return v.to >= 0 && v.s.Slots[v.to].Cap != cap.Cap{} }},
		{"no size", 1, func(v view) bool { return costTold(v.c.X, v.c.Y) == 0 }},
		{"no room", 8, func(v view) bool { return v.room().Size > 0 && v.want() > v.room().Size }},
		{"no gap", 8, func(v view) bool { return v.good && v.c.X == 2 && gapTold(v.s, v.c.Y) < 0 }},
		{"no number", 8, func(v view) bool { return v.good && !slices.Contains(v.s.Things, thing.Thing{}) }},
	}
}

// broken gives the places, in their order, of the refusals that hold: none of a call that goes well.
func (v view) broken() []int {
	var l []int
	for i, x := range refusals() {
		if x.holds(v) {
			l = append(l, i)
		}
	}
	return l
}

// made is the thing that is to be made.
func (v view) made() thing.Thing {
	switch v.c.X {
	case 1:
		return thing.Thing{Type: 1, Size: v.c.Y}
	case 2:
		return thing.Thing{Type: 2, Bits: v.c.Y, Base: gapTold(v.s, v.c.Y)}
	}
	return thing.Thing{Type: v.c.X}
}

// doTold is what Do must answer.
func (v view) doTold() (state.State, state.Reply) {
	if l := v.broken(); len(l) > 0 {
		return v.s, state.Reply{Err: refusals()[l[0]].e}
	}
	s, n := copyOf(v.s), slices.Index(v.s.Things, thing.Thing{})
	s.Things[v.at().Thing].Used = v.want()
	s.Things[n] = v.made()
	s.Slots[v.to] = slot(v.c.X, n, 7, 0, v.from)
	return s, state.Reply{N: n}
}

// check holds Do of a call against the second telling, and the state that was handed in against what it was.
func check(t *testing.T, s state.State, thread int, c call.Call) (state.State, state.Reply) {
	t.Helper()
	before := copyOf(s)
	wantState, want := look(s, thread, c).doTold()
	next, r := carve.Do(s, thread, c)
	if r != want {
		t.Errorf("P15.1: Do(%d, %s): %+v, want %+v, of %s", thread, short(c), r, want, tell(s))
	}
	if !state.Same(next, wantState) {
		t.Errorf("P15.1: Do(%d, %s): %s, want %s, of %s", thread, short(c), tell(next), tell(wantState), tell(s))
	}
	if r.Err == api.OK && !state.Good(next) {
		t.Errorf("P15.1: Do(%d, %s): not Good: %s", thread, short(c), tell(next))
	}
	if !state.Same(s, before) {
		t.Errorf("R4: Do(%d, %s) changed the state that it was handed: %s, was %s", thread, short(c), tell(s), tell(before))
	}
	return next, r
}

// checkUsed asks for Used of all slots, and of numbers that are none.
func checkUsed(t *testing.T, s state.State) {
	t.Helper()
	before := copyOf(s)
	for _, i := range append(places(len(s.Slots)), far()...) {
		if got, want := carve.Used(s, i), usedTold(s, i); got != want {
			t.Errorf("P15.1: Used(%d): %d, want %d, of %s", i, got, want, tell(s))
		}
	}
	if !state.Same(s, before) {
		t.Errorf("R4: Used changed the state that it was handed: %s, was %s", tell(s), tell(before))
	}
}

// places gives all numbers from two below the first of n to two above the last.
func places(n int) []int {
	var l []int
	for i := -2; i < n+2; i++ {
		l = append(l, i)
	}
	return l
}

// far gives numbers that are no slot and no thread: some with small numbers in their low bits.
func far() []int {
	return []int{math.MinInt, math.MinInt + 1, -1 << 32, 1 - 1<<32, -1 << 31, -97, -9, -2, -1, 97, 1 << 8, 1<<8 + 1, 1<<16 + 1, 1 << 31, 1 << 32, 1<<32 + 1, 1<<32 + 8, 1 << 62, math.MaxInt - 1, math.MaxInt}
}

// first is the first state of so many threads, with all slots that there may be.
func first(threads, room int) state.State {
	s, _ := state.New(geo.Geo{Threads: threads, Slots: 96, Things: 20}, room)
	return s
}

// toMake is a call to make a thing of a kind and size by a way a, at a way b.
func toMake(a, b []int, kind, size int) call.Call {
	return call.Call{Op: 1, A: way(a...), B: way(b...), X: kind, Y: size}
}
