package bell_test

import (
	"fmt"
	"math"
	"slices"
	"testing"

	"reeve/api"
	"reeve/bell"
	"reeve/call"
	"reeve/cap"
	"reeve/geo"
	"reeve/path"
	"reeve/state"
	"reeve/thing"
)

// This file is a second telling of the chapter: each refusal by itself, so that of any call it can be told which ones hold at once; and words bit by bit.

func way(l ...int) path.Path { return path.Path{L: l} }

func slot(kind, t, rights, badge, up int) state.Slot {
	return state.Slot{Cap: cap.Cap{Type: kind, Thing: t, Rights: rights, Badge: badge}, Up: up}
}

// bare is a slot that nothing is in.
func bare() state.Slot { return state.Slot{Up: -1} }

// copyOf is another state, alike, by the tests' own means.
func copyOf(s state.State) state.State {
	return state.State{Geo: s.Geo, Slots: append([]state.Slot{}, s.Slots...), Things: append([]thing.Thing{}, s.Things...)}
}

// tell is a state in a test's message: what is there.
func tell(s state.State) string {
	text := fmt.Sprint(s.Geo, " of ", len(s.Slots), " slots, ", len(s.Things), " things:")
	for i, x := range s.Slots {
		if x != bare() {
			text += fmt.Sprint(" ", i, x)
		}
	}
	for t, x := range s.Things {
		if x != (thing.Thing{}) {
			text += fmt.Sprintf(" thing %d: %d, %d bits at %d, full %t, word %#x, badge %d, from %d;", t, x.Type, x.Bits, x.Base, x.Full, x.Word, x.Badge, x.From)
		}
	}
	return text[:min(len(text), 3000)]
}

// short is a call in a test's message: long ways are cut.
func short(c call.Call) string {
	return fmt.Sprintf("{op %d, A %d, B %d, X %d, Y %d, W %d}", c.Op, c.A.L[:min(len(c.A.L), 5)], c.B.L[:min(len(c.B.L), 5)], c.X, c.Y, c.W)
}

// slotsOf gives the slots of a node, in a state that may be; of what is no node: none.
func slotsOf(x thing.Thing) []int {
	var l []int
	for i := range []int{0, 2, 4, 8, 16}[x.Bits] {
		l = append(l, x.Base+i)
	}
	return l
}

// leadTold goes a way that may be, in a state that may be: -1 where it leads to no slot.
func leadTold(s state.State, thread int, l []int) int {
	node, at := s.Things[2+thread], -1
	for i, step := range l {
		if i > 0 {
			c := s.Slots[at].Cap
			if c.Type != 2 || c.Rights%2 == 0 {
				return -1
			}
			node = s.Things[c.Thing]
		}
		if step >= len(slotsOf(node)) {
			return -1
		}
		at = node.Base + step
	}
	return at
}

func isEmpty(x state.Slot) bool { return x.Cap == cap.Cap{} }

func isFull(x state.Slot) bool { return x.Cap != cap.Cap{} }

func wayMayBe(p path.Path) bool {
	for _, step := range p.L {
		if step < 0 || step > 15 {
			return false
		}
	}
	return len(p.L) == 1 || len(p.L) == 2 || len(p.L) == 3
}

// callMayBe tells of a call whether it may be, and is one to ring or poll: beside A it has nothing.
func callMayBe(c call.Call) bool {
	return (c.Op == 9 || c.Op == 10) && wayMayBe(c.A) && len(c.B.L) == 0 && c.X == 0 && c.Y == 0 && c.W == 0
}

// bitsOf gives the bits that are set in a word, rising.
func bitsOf(w uint64) []int {
	var l []int
	for i := 0; w > 0; i, w = i+1, w/2 {
		if w%2 == 1 {
			l = append(l, i)
		}
	}
	return l
}

// wordOf is the word in which just these bits are set, however often each is named.
func wordOf(bits []int) uint64 {
	w, one := uint64(0), uint64(1)
	for i := range 64 {
		if slices.Contains(bits, i) {
			w += one
		}
		one += one
	}
	return w
}

// bitTold is the bit that a badge sets.
func bitTold(badge int) int {
	for badge >= 64 {
		badge -= 64
	}
	return badge
}

// refusal is one of the chapter's: each asks for itself alone.
type refusal struct {
	name  string
	e     api.Errno
	holds func(v view) bool
}

// broken gives the places, in their order, of the refusals that hold: none of what goes well.
func broken(l []refusal, v view) []int {
	var held []int
	for i, x := range l {
		if x.holds(v) {
			held = append(held, i)
		}
	}
	return held
}

// view is a call on a state, with what its way leads to: -1 where it leads nowhere, also of what may not be.
type view struct {
	s      state.State
	thread int
	c      call.Call
	good   bool
	there  bool // is the thread
	a      int
}

func look(s state.State, thread int, c call.Call) view {
	v := view{s: s, thread: thread, c: c, good: state.Good(s), a: -1}
	v.there = thread >= 0 && thread < s.Geo.Threads
	if v.good && v.there && wayMayBe(c.A) {
		v.a = leadTold(s, thread, c.A.L)
	}
	return v
}

// by is what is in A's slot: no capability, if it is none.
func (v view) by() cap.Cap {
	if v.a < 0 {
		return cap.Cap{}
	}
	return v.s.Slots[v.a].Cap
}

// has tells whether anything is at A.
func (v view) has() bool { return v.by() != cap.Cap{} }

// mayNot tells whether A leads to what has not that right.
func (v view) mayNot(right int) bool { return v.has() && v.by().Rights/right%2 == 0 }

// word is the Word of the thing that A leads to, of whatever kind.
func (v view) word() uint64 { return v.s.Things[v.by().Thing].Word }

// ofDo are Do's refusals, in the chapter's order: first those of both Ops, then a ring's, then a poll's.
func ofDo() []refusal {
	return []refusal{
		{"state", 1, func(v view) bool { return !v.good }},
		{"call", 1, func(v view) bool { return !callMayBe(v.c) }},
		{"thread", 1, func(v view) bool { return !v.there }},
		{"no slot A", 3, func(v view) bool { return v.good && v.there && wayMayBe(v.c.A) && v.a < 0 }},
		{"nothing at A", 4, func(v view) bool { return v.a >= 0 && !v.has() }},
		{"no Bell's", 7, func(v view) bool { return v.has() && v.by().Type != 4 }},
		{"ring without Write", 6, func(v view) bool { return v.c.Op == 9 && v.mayNot(2) }},
		{"poll without Read", 6, func(v view) bool { return v.c.Op == 10 && v.mayNot(1) }},
		{"poll of what did not ring", 14, func(v view) bool { return v.c.Op == 10 && v.has() && v.word() == 0 }},
	}
}

// doTold is what Do must answer.
func (v view) doTold() (state.State, state.Reply) {
	if l := broken(ofDo(), v); len(l) > 0 {
		return v.s, state.Reply{Err: ofDo()[l[0]].e}
	}
	s, by := copyOf(v.s), v.by()
	if v.c.Op == 9 {
		s.Things[by.Thing] = thing.Thing{Type: 4, Word: wordOf(append(bitsOf(v.word()), bitTold(by.Badge)))}
		return s, state.Reply{}
	}
	s.Things[by.Thing] = thing.Thing{Type: 4}
	return s, state.Reply{W: v.word()}
}

// check holds Do of a call against the second telling, and the state that was handed in against what it was.
func check(t *testing.T, s state.State, thread int, c call.Call) (state.State, state.Reply) {
	t.Helper()
	before := copyOf(s)
	wantState, want := look(s, thread, c).doTold()
	next, r := bell.Do(s, thread, c)
	if r != want {
		t.Errorf("P19.1: Do(%d, %s): %+v, want %+v, of %s", thread, short(c), r, want, tell(s))
	}
	if !state.Same(next, wantState) {
		t.Errorf("P19.1: Do(%d, %s): %s, want %s, of %s", thread, short(c), tell(next), tell(wantState), tell(s))
	}
	if r.Err == api.OK && !state.Good(next) {
		t.Errorf("P19.1: Do(%d, %s): not Good: %s", thread, short(c), tell(next))
	}
	if !state.Same(s, before) {
		t.Errorf("R4: Do(%d, %s) changed the state that it was handed: %s, was %s", thread, short(c), tell(s), tell(before))
	}
	return next, r
}

// far gives numbers that are no slot, no thing and no thread: some with small numbers in their low bits.
func far() []int {
	return []int{math.MinInt, math.MinInt + 1, -1 << 32, 1 - 1<<32, -1 << 31, -97, -9, -2, -1, 97, 1 << 8, 1<<8 + 1, 1<<16 + 1, 1 << 31, 1 << 32, 1<<32 + 1, 1<<32 + 8, 1 << 62, math.MaxInt - 1, math.MaxInt}
}

// first is the first state of so many threads, with all slots that there may be.
func first(threads int) state.State {
	s, _ := state.New(geo.Geo{Threads: threads, Slots: 96, Things: 20}, 64)
	return s
}

func toRing(a ...int) call.Call { return call.Call{Op: 9, A: way(a...)} }

func toPoll(a ...int) call.Call { return call.Call{Op: 10, A: way(a...)} }
