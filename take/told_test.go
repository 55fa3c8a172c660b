package take_test

import (
	"fmt"
	"math"
	"slices"
	"testing"

	"reeve/api"
	"reeve/call"
	"reeve/cap"
	"reeve/geo"
	"reeve/path"
	"reeve/state"
	"reeve/take"
	"reeve/thing"
)

// This file is a second telling of the chapter: each refusal by itself, so that of any call it can be told which ones hold at once; and all that goes at once, not slot by slot.

func way(l ...int) path.Path { return path.Path{L: l} }

func slot(kind, t, rights, badge, up int) state.Slot {
	return state.Slot{Cap: cap.Cap{Type: kind, Thing: t, Rights: rights, Badge: badge}, Up: up}
}

// bare is a slot that nothing is in.
func bare() state.Slot { return state.Slot{Up: -1} }

// copyOf is another state, alike, by the tests' own means.
func copyOf(s state.State) state.State {
	return state.State{Geo: s.Geo, Slots: append([]state.Slot{}, s.Slots...), Things: append([]thing.Thing{}, s.Things...)}
}

// tell is a state in a test's message: what is there.
func tell(s state.State) string {
	text := fmt.Sprint(s.Geo, " of ", len(s.Slots), " slots, ", len(s.Things), " things:")
	for i, x := range s.Slots {
		if x != bare() {
			text += fmt.Sprint(" ", i, x)
		}
	}
	for t, x := range s.Things {
		if x != (thing.Thing{}) {
			text += fmt.Sprintf(" thing %d: %d, %d bits at %d, full %t, word %d, badge %d, from %d;", t, x.Type, x.Bits, x.Base, x.Full, x.Word, x.Badge, x.From)
		}
	}
	return text[:min(len(text), 3000)]
}

// short is a call in a test's message: long ways are cut.
func short(c call.Call) string {
	return fmt.Sprintf("{op %d, A %d, B %d, X %d, Y %d, W %d}", c.Op, c.A.L[:min(len(c.A.L), 5)], c.B.L[:min(len(c.B.L), 5)], c.X, c.Y, c.W)
}

// slotsOf gives the slots of a node, in a state that may be; of what is no node: none.
func slotsOf(x thing.Thing) []int {
	var l []int
	for i := range []int{0, 2, 4, 8, 16}[x.Bits] {
		l = append(l, x.Base+i)
	}
	return l
}

// leadTold goes a way that may be, in a state that may be: -1 where it leads to no slot.
func leadTold(s state.State, thread int, l []int) int {
	node, at := s.Things[2+thread], -1
	for i, step := range l {
		if i > 0 {
			c := s.Slots[at].Cap
			if c.Type != 2 || c.Rights%2 == 0 {
				return -1
			}
			node = s.Things[c.Thing]
		}
		if step >= len(slotsOf(node)) {
			return -1
		}
		at = node.Base + step
	}
	return at
}

func isSlot(s state.State, i int) bool { return i >= 0 && i < len(s.Slots) }

func isEmpty(x state.Slot) bool { return x.Cap == cap.Cap{} }

func isFull(x state.Slot) bool { return x.Cap != cap.Cap{} }

// going is all that goes when some slots of a state that may be are emptied: slots, and things.
type going struct {
	s             state.State
	slots, things map[int]bool
}

// goingTold asks over and over which things are in no slot that is left, till none more goes.
func goingTold(s state.State, l []int) going {
	g := going{s, map[int]bool{}, map[int]bool{}}
	for _, i := range l {
		g.add(i)
	}
	for more := true; more; {
		more = false
		for t, x := range s.Things {
			if x.Type == 0 || t == 2 || t > 2 && t < 2+s.Geo.Threads || g.things[t] || g.held(t) {
				continue
			}
			g.things[t], more = true, true
			for _, i := range slotsOf(x) {
				g.add(i)
			}
		}
	}
	return g
}

func (g going) add(i int) {
	if isSlot(g.s, i) && isFull(g.s.Slots[i]) {
		g.slots[i] = true
	}
}

func (g going) held(t int) bool {
	for i, x := range g.s.Slots {
		if isFull(x) && x.Cap.Thing == t && !g.slots[i] {
			return true
		}
	}
	return false
}

// left is the state behind it.
func (g going) left() state.State {
	s := copyOf(g.s)
	for i := range s.Slots {
		for s.Slots[i].Up >= 0 && g.slots[s.Slots[i].Up] {
			s.Slots[i].Up = g.s.Slots[s.Slots[i].Up].Up
		}
		if g.slots[i] {
			s.Slots[i] = bare()
		}
	}
	for t, x := range s.Things {
		if x.From > 0 && g.slots[x.From-1] {
			s.Things[t].From = 0
		}
		if g.things[t] {
			s.Things[t] = thing.Thing{}
		}
	}
	return s
}

// belowTold gives all that came of a slot: those from which one comes to it, going up.
func belowTold(s state.State, slot int) []int {
	var l []int
	for i := range s.Slots {
		above := []int{}
		for up := s.Slots[i].Up; up >= 0; up = s.Slots[up].Up {
			above = append(above, up)
		}
		if slices.Contains(above, slot) {
			l = append(l, i)
		}
	}
	return l
}

func wayMayBe(p path.Path) bool {
	for _, step := range p.L {
		if step < 0 || step > 15 {
			return false
		}
	}
	return len(p.L) == 1 || len(p.L) == 2 || len(p.L) == 3
}

// callMayBe tells of a call whether it may be, and is one to delete or revoke.
func callMayBe(c call.Call) bool {
	return (c.Op == 5 || c.Op == 6) && wayMayBe(c.A) && len(c.B.L) == 0 && c.X == 0 && c.Y == 0 && c.W == 0
}

// refusal is one of the chapter's: each asks for itself alone.
type refusal struct {
	name  string
	e     api.Errno
	holds func(v view) bool
}

// broken gives the places, in their order, of the refusals that hold: none of what goes well.
func broken(l []refusal, v view) []int {
	var held []int
	for i, x := range l {
		if x.holds(v) {
			held = append(held, i)
		}
	}
	return held
}

// view is a call on a state, with what its way leads to: -1 where it leads nowhere, also of what may not be.
type view struct {
	s      state.State
	thread int
	c      call.Call
	good   bool
	there  bool // is the thread
	from   int
}

func look(s state.State, thread int, c call.Call) view {
	v := view{s: s, thread: thread, c: c, good: state.Good(s), from: -1}
	v.there = thread >= 0 && thread < s.Geo.Threads
	if v.good && v.there && wayMayBe(c.A) {
		v.from = leadTold(s, thread, c.A.L)
	}
	return v
}

// ofDo are Do's refusals, in the chapter's order.
func ofDo() []refusal {
	return []refusal{
		{"state", 1, func(v view) bool { return !v.good }},
		{"call", 1, func(v view) bool { return !callMayBe(v.c) }},
		{"thread", 1, func(v view) bool { return !v.there }},
		{"no slot", 3, func(v view) bool { return v.good && v.there && wayMayBe(v.c.A) && v.from < 0 }},
		{"nothing there", 4, func(v view) bool { return v.from >= 0 && isEmpty(v.s.Slots[v.from]) }},
	}
}

// going is what goes of a call that goes well.
func (v view) going() going {
	if v.c.Op == 6 {
		return goingTold(v.s, belowTold(v.s, v.from))
	}
	return goingTold(v.s, []int{v.from})
}

// doTold is what Do must answer.
func (v view) doTold() (state.State, state.Reply) {
	if l := broken(ofDo(), v); len(l) > 0 {
		return v.s, state.Reply{Err: ofDo()[l[0]].e}
	}
	g := v.going()
	return g.left(), state.Reply{N: len(g.slots)}
}

// check holds Do of a call against the second telling, and the state that was handed in against what it was.
func check(t *testing.T, s state.State, thread int, c call.Call) (state.State, state.Reply) {
	t.Helper()
	before := copyOf(s)
	wantState, want := look(s, thread, c).doTold()
	next, r := take.Do(s, thread, c)
	if r != want {
		t.Errorf("P17.1: Do(%d, %s): %+v, want %+v, of %s", thread, short(c), r, want, tell(s))
	}
	if !state.Same(next, wantState) {
		t.Errorf("P17.1: Do(%d, %s): %s, want %s, of %s", thread, short(c), tell(next), tell(wantState), tell(s))
	}
	if r.Err == api.OK && !state.Good(next) {
		t.Errorf("P17.1: Do(%d, %s): not Good: %s", thread, short(c), tell(next))
	}
	if !state.Same(s, before) {
		t.Errorf("R4: Do(%d, %s) changed the state that it was handed: %s, was %s", thread, short(c), tell(s), tell(before))
	}
	return next, r
}

// checkEmpty holds Empty against the second telling, and what was handed in against what it was.
func checkEmpty(t *testing.T, s state.State, l []int) (state.State, int) {
	t.Helper()
	before, asked := copyOf(s), slices.Clone(l)
	want, many := s, 0
	if state.Good(s) {
		g := goingTold(s, l)
		want, many = g.left(), len(g.slots)
	}
	next, n := take.Empty(s, l)
	if n != many {
		t.Errorf("P17.1: Empty(%d): %d, want %d, of %s", l, n, many, tell(s))
	}
	if !state.Same(next, want) {
		t.Errorf("P17.1: Empty(%d): %s, want %s, of %s", l, tell(next), tell(want), tell(s))
	}
	if state.Good(s) && !state.Good(next) {
		t.Errorf("P17.1: Empty(%d): not Good: %s", l, tell(next))
	}
	if !state.Same(s, before) || !slices.Equal(l, asked) {
		t.Errorf("R4: Empty(%d) changed what it was handed: %s, was %s of %d", l, tell(s), tell(before), asked)
	}
	return next, n
}

// far gives numbers that are no slot, no thing and no thread: some with small numbers in their low bits.
func far() []int {
	return []int{math.MinInt, math.MinInt + 1, -1 << 32, 1 - 1<<32, -1 << 31, -97, -9, -2, -1, 97, 1 << 8, 1<<8 + 1, 1<<16 + 1, 1 << 31, 1 << 32, 1<<32 + 1, 1<<32 + 8, 1 << 62, math.MaxInt - 1, math.MaxInt}
}

// first is the first state of so many threads, with all slots that there may be.
func first(threads int) state.State {
	s, _ := state.New(geo.Geo{Threads: threads, Slots: 96, Things: 20}, 64)
	return s
}

func toDelete(a ...int) call.Call { return call.Call{Op: 5, A: way(a...)} }

func toRevoke(a ...int) call.Call { return call.Call{Op: 6, A: way(a...)} }
