package mail_test

import (
	"fmt"
	"math"
	"slices"
	"testing"

	"reeve/api"
	"reeve/call"
	"reeve/cap"
	"reeve/geo"
	"reeve/mail"
	"reeve/path"
	"reeve/state"
	"reeve/thing"
)

// This file is a second telling of the chapter: each refusal by itself, so that of any call it can be told which ones hold at once.

func way(l ...int) path.Path { return path.Path{L: l} }

func slot(kind, t, rights, badge, up int) state.Slot {
	return state.Slot{Cap: cap.Cap{Type: kind, Thing: t, Rights: rights, Badge: badge}, Up: up}
}

// bare is a slot that nothing is in.
func bare() state.Slot { return state.Slot{Up: -1} }

// copyOf is another state, alike, by the tests' own means.
func copyOf(s state.State) state.State {
	return state.State{Geo: s.Geo, Slots: append([]state.Slot{}, s.Slots...), Things: append([]thing.Thing{}, s.Things...)}
}

// tell is a state in a test's message: what is there.
func tell(s state.State) string {
	text := fmt.Sprint(s.Geo, " of ", len(s.Slots), " slots, ", len(s.Things), " things:")
	for i, x := range s.Slots {
		if x != bare() {
			text += fmt.Sprint(" ", i, x)
		}
	}
	for t, x := range s.Things {
		if x != (thing.Thing{}) {
			text += fmt.Sprintf(" thing %d: %d, %d bits at %d, full %t, word %d, badge %d, from %d;", t, x.Type, x.Bits, x.Base, x.Full, x.Word, x.Badge, x.From)
		}
	}
	return text[:min(len(text), 3000)]
}

// short is a call in a test's message: long ways are cut.
func short(c call.Call) string {
	return fmt.Sprintf("{op %d, A %d, B %d, X %d, Y %d, W %d}", c.Op, c.A.L[:min(len(c.A.L), 5)], c.B.L[:min(len(c.B.L), 5)], c.X, c.Y, c.W)
}

// slotsOf gives the slots of a node, in a state that may be; of what is no node: none.
func slotsOf(x thing.Thing) []int {
	var l []int
	for i := range []int{0, 2, 4, 8, 16}[x.Bits] {
		l = append(l, x.Base+i)
	}
	return l
}

// ownerTold tells, in a state that may be, which node has a slot: -1 if none.
func ownerTold(s state.State, i int) int {
	return slices.IndexFunc(s.Things, func(x thing.Thing) bool { return slices.Contains(slotsOf(x), i) })
}

// leadTold goes a way that may be, in a state that may be: -1 where it leads to no slot.
func leadTold(s state.State, thread int, l []int) int {
	node, at := s.Things[2+thread], -1
	for i, step := range l {
		if i > 0 {
			c := s.Slots[at].Cap
			if c.Type != 2 || c.Rights%2 == 0 {
				return -1
			}
			node = s.Things[c.Thing]
		}
		if step >= len(slotsOf(node)) {
			return -1
		}
		at = node.Base + step
	}
	return at
}

// ringTold goes up from a slot, through the nodes in which it stands, straight or through others: is that node one of them?
func ringTold(s state.State, node, at int) bool {
	above := []int{ownerTold(s, at)}
	for i := 0; i < len(above); i++ {
		for j, x := range s.Slots {
			owner := ownerTold(s, j)
			if x.Cap.Type == 2 && x.Cap.Thing == above[i] && !slices.Contains(above, owner) {
				above = append(above, owner)
			}
		}
	}
	return slices.Contains(above, node)
}

func isEmpty(x state.Slot) bool { return x.Cap == cap.Cap{} }

func isFull(x state.Slot) bool { return x.Cap != cap.Cap{} }

func wayMayBe(p path.Path) bool {
	for _, step := range p.L {
		if step < 0 || step > 15 {
			return false
		}
	}
	return len(p.L) == 1 || len(p.L) == 2 || len(p.L) == 3
}

// callMayBe tells of a call whether it may be, and is one to send or receive.
func callMayBe(c call.Call) bool {
	if !wayMayBe(c.A) || len(c.B.L) > 0 && !wayMayBe(c.B) || c.X != 0 || c.Y != 0 {
		return false
	}
	return c.Op == 7 || c.Op == 8 && c.W == 0
}

// refusal is one of the chapter's: each asks for itself alone.
type refusal struct {
	name  string
	e     api.Errno
	holds func(v view) bool
}

// broken gives the places, in their order, of the refusals that hold: none of what goes well.
func broken(l []refusal, v view) []int {
	var held []int
	for i, x := range l {
		if x.holds(v) {
			held = append(held, i)
		}
	}
	return held
}

// view is a call on a state, with what its ways lead to: -1 where they lead nowhere, also of what may not be.
type view struct {
	s      state.State
	thread int
	c      call.Call
	good   bool
	there  bool // is the thread
	a, b   int
}

func look(s state.State, thread int, c call.Call) view {
	v := view{s: s, thread: thread, c: c, good: state.Good(s), a: -1, b: -1}
	v.there = thread >= 0 && thread < s.Geo.Threads
	if v.good && v.there && wayMayBe(c.A) {
		v.a = leadTold(s, thread, c.A.L)
	}
	if v.good && v.there && wayMayBe(c.B) {
		v.b = leadTold(s, thread, c.B.L)
	}
	return v
}

// at is what is in a slot: no capability, if it is none.
func (v view) at(slot int) cap.Cap {
	if slot < 0 {
		return cap.Cap{}
	}
	return v.s.Slots[slot].Cap
}

func (v view) none(slot int) bool { return v.at(slot) == cap.Cap{} }

// box is the box that A leads to: nothing, if it leads to none.
func (v view) box() thing.Thing {
	if v.at(v.a).Type != 3 {
		return thing.Thing{}
	}
	return v.s.Things[v.at(v.a).Thing]
}

// mayNot tells whether A leads to what has not that right.
func (v view) mayNot(right int) bool {
	return !v.none(v.a) && v.at(v.a).Rights/right%2 == 0
}

// nowhere tells whether a way that may be, of a thread that is there, leads to no slot.
func (v view) nowhere(p path.Path, slot int) bool {
	return v.good && v.there && wayMayBe(p) && slot < 0
}

// handed is what is to be put where B leads to: of a call to send, of a box that hands on nothing, and of a call without B it is nothing.
func (v view) handed() cap.Cap {
	if v.c.Op != 8 || len(v.c.B.L) == 0 {
		return cap.Cap{}
	}
	return v.at(v.box().From - 1)
}

// isSend tells whether it is a call to send, with a way to be handed on.
func (v view) isSend() bool { return v.c.Op == 7 && len(v.c.B.L) > 0 }

// ofDo are Do's refusals, in the chapter's order: first those of both Ops, then a send's, then a recv's.
func ofDo() []refusal {
	return []refusal{
		{"state", 1, func(v view) bool { return !v.good }},
		{"call", 1, func(v view) bool { return !callMayBe(v.c) }},
		{"thread", 1, func(v view) bool { return !v.there }},
		{"no slot A", 3, func(v view) bool { return v.nowhere(v.c.A, v.a) }},
		{"nothing at A", 4, func(v view) bool { return v.a >= 0 && v.none(v.a) }},
		{"no Mail's", 7, func(v view) bool { return !v.none(v.a) && v.at(v.a).Type != 3 }},
		{"send without Write", 6, func(v view) bool { return v.c.Op == 7 && v.mayNot(2) }},
		{"send without Grant", 6, func(v view) bool { return v.isSend() && v.mayNot(4) }},
		{"send of no slot B", 3, func(v view) bool { return v.isSend() && v.nowhere(v.c.B, v.b) }},
		{"send of nothing", 4, func(v view) bool { return v.isSend() && v.b >= 0 && v.none(v.b) }},
		{"send of a Room's", 7, func(v view) bool { return v.isSend() && v.at(v.b).Type == 1 }},
		{"send to a full box", 13, func(v view) bool { return v.c.Op == 7 && v.box().Full }},
		{"recv without Read", 6, func(v view) bool { return v.c.Op == 8 && v.mayNot(1) }},
		{"recv of an empty box", 14, func(v view) bool { return v.c.Op == 8 && v.box().Type == 3 && !v.box().Full }},
		{"recv to no slot B", 3, func(v view) bool { return v.handed() != cap.Cap{} && v.nowhere(v.c.B, v.b) }},
		{"recv to what is taken", 5, func(v view) bool { return v.handed() != cap.Cap{} && !v.none(v.b) }},
		{"recv of a Room's", 7, func(v view) bool { return v.handed().Type == 1 }},
		{"recv of a ring", 1, func(v view) bool {
			return v.handed().Type == 2 && v.b >= 0 && ringTold(v.s, v.handed().Thing, v.b)
		}},
	}
}

// doTold is what Do must answer.
func (v view) doTold() (state.State, state.Reply) {
	if l := broken(ofDo(), v); len(l) > 0 {
		return v.s, state.Reply{Err: ofDo()[l[0]].e}
	}
	s, by := copyOf(v.s), v.at(v.a)
	if v.c.Op == 7 {
		s.Things[by.Thing] = thing.Thing{Type: 3, Full: true, Word: v.c.W, Badge: by.Badge, From: v.b + 1}
		return s, state.Reply{}
	}
	had := v.box()
	s.Things[by.Thing] = thing.Thing{Type: 3}
	if v.handed() != (cap.Cap{}) {
		s.Slots[v.b] = state.Slot{Cap: v.handed(), Up: had.From - 1}
	}
	return s, state.Reply{W: had.Word, N: had.Badge}
}

// check holds Do of a call against the second telling, and the state that was handed in against what it was.
func check(t *testing.T, s state.State, thread int, c call.Call) (state.State, state.Reply) {
	t.Helper()
	before := copyOf(s)
	wantState, want := look(s, thread, c).doTold()
	next, r := mail.Do(s, thread, c)
	if r != want {
		t.Errorf("P18.1: Do(%d, %s): %+v, want %+v, of %s", thread, short(c), r, want, tell(s))
	}
	if !state.Same(next, wantState) {
		t.Errorf("P18.1: Do(%d, %s): %s, want %s, of %s", thread, short(c), tell(next), tell(wantState), tell(s))
	}
	if r.Err == api.OK && !state.Good(next) {
		t.Errorf("P18.1: Do(%d, %s): not Good: %s", thread, short(c), tell(next))
	}
	if !state.Same(s, before) {
		t.Errorf("R4: Do(%d, %s) changed the state that it was handed: %s, was %s", thread, short(c), tell(s), tell(before))
	}
	return next, r
}

// far gives numbers that are no slot, no thing and no thread: some with small numbers in their low bits.
func far() []int {
	return []int{math.MinInt, math.MinInt + 1, -1 << 32, 1 - 1<<32, -1 << 31, -97, -9, -2, -1, 97, 1 << 8, 1<<8 + 1, 1<<16 + 1, 1 << 31, 1 << 32, 1<<32 + 1, 1<<32 + 8, 1 << 62, math.MaxInt - 1, math.MaxInt}
}

// first is the first state of so many threads, with all slots that there may be.
func first(threads int) state.State {
	s, _ := state.New(geo.Geo{Threads: threads, Slots: 96, Things: 20}, 64)
	return s
}

// toSend is a call to send: without steps in b, a word alone.
func toSend(a, b []int, w uint64) call.Call {
	return call.Call{Op: 7, A: way(a...), B: way(b...), W: w}
}

// toRecv is a call to receive: without steps in b, a word alone.
func toRecv(a, b []int) call.Call { return call.Call{Op: 8, A: way(a...), B: way(b...)} }
