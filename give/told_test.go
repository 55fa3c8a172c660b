package give_test

import (
	"fmt"
	"math"
	"slices"
	"testing"

	"reeve/api"
	"reeve/call"
	"reeve/cap"
	"reeve/geo"
	"reeve/give"
	"reeve/path"
	"reeve/state"
	"reeve/thing"
)

// This file is a second telling of the chapter: each refusal by itself, so that of any call it can be told which ones hold at once.

func way(l ...int) path.Path { return path.Path{L: l} }

func slot(kind, t, rights, badge, up int) state.Slot {
	return state.Slot{Cap: cap.Cap{Type: kind, Thing: t, Rights: rights, Badge: badge}, Up: up}
}

// bare is a slot that nothing is in.
func bare() state.Slot { return state.Slot{Up: -1} }

// copyOf is another state, alike, by the tests' own means.
func copyOf(s state.State) state.State {
	return state.State{Geo: s.Geo, Slots: append([]state.Slot{}, s.Slots...), Things: append([]thing.Thing{}, s.Things...)}
}

// tell is a state in a test's message: what is there.
func tell(s state.State) string {
	text := fmt.Sprint(s.Geo, " of ", len(s.Slots), " slots, ", len(s.Things), " things:")
	for i, x := range s.Slots {
		if x != bare() {
			text += fmt.Sprint(" ", i, x)
		}
	}
	for t, x := range s.Things {
		if x.Type == 2 || x.From != 0 {
			text += fmt.Sprintf(" thing %d: %d, %d bits at %d, from %d;", t, x.Type, x.Bits, x.Base, x.From)
		}
	}
	return text[:min(len(text), 3000)]
}

// short is a call in a test's message: long ways are cut.
func short(c call.Call) string {
	return fmt.Sprintf("{op %d, A %d, B %d, X %d, Y %d, W %d}", c.Op, c.A.L[:min(len(c.A.L), 5)], c.B.L[:min(len(c.B.L), 5)], c.X, c.Y, c.W)
}

// slotsOf gives the slots of a node, in a state that may be; of what is no node: none.
func slotsOf(x thing.Thing) []int {
	var l []int
	for i := range []int{0, 2, 4, 8, 16}[x.Bits] {
		l = append(l, x.Base+i)
	}
	return l
}

// ownerTold tells, in a state that may be, which node has a slot: -1 if none.
func ownerTold(s state.State, i int) int {
	return slices.IndexFunc(s.Things, func(x thing.Thing) bool { return slices.Contains(slotsOf(x), i) })
}

// leadTold goes a way that may be, in a state that may be: -1 where it leads to no slot.
func leadTold(s state.State, thread int, l []int) int {
	node, at := s.Things[2+thread], -1
	for i, step := range l {
		if i > 0 {
			c := s.Slots[at].Cap
			if c.Type != 2 || c.Rights%2 == 0 {
				return -1
			}
			node = s.Things[c.Thing]
		}
		if step >= len(slotsOf(node)) {
			return -1
		}
		at = node.Base + step
	}
	return at
}

// ringTold goes up from a slot, through the nodes in which it stands, straight or through others: is that node one of them?
func ringTold(s state.State, node, at int) bool {
	above := []int{ownerTold(s, at)}
	for i := 0; i < len(above); i++ {
		for j, x := range s.Slots {
			owner := ownerTold(s, j)
			if x.Cap.Type == 2 && x.Cap.Thing == above[i] && !slices.Contains(above, owner) {
				above = append(above, owner)
			}
		}
	}
	return slices.Contains(above, node)
}

// lessTold holds two capabilities that are there against each other, right by right.
func lessTold(a, b cap.Cap) bool {
	for _, right := range []int{1, 2, 4} {
		if has(a, right) && !has(b, right) {
			return false
		}
	}
	return a.Type == b.Type && a.Thing == b.Thing && (b.Badge == 0 || a.Badge == b.Badge)
}

// has tells whether a capability has a right: of rights that may not be none counts.
func has(c cap.Cap, right int) bool {
	return c.Rights > 0 && c.Rights < 8 && c.Rights/right%2 == 1
}

// cutTold leaves of a capability the rights that are in both.
func cutTold(c cap.Cap, rights int) cap.Cap {
	for _, right := range []int{1, 2, 4} {
		if c.Rights/right%2 == 1 && rights/right%2 == 0 {
			c.Rights -= right
		}
	}
	return c
}

func capMayBe(c cap.Cap) bool {
	if c == (cap.Cap{}) {
		return true
	}
	bears := c.Type == 3 || c.Type == 4
	return c.Type > 0 && c.Type < 6 && c.Thing >= 0 && c.Thing < 48 && c.Rights >= 0 && c.Rights < 8 && (c.Badge == 0 || bears && c.Badge > 0 && c.Badge < 65536)
}

func wayMayBe(p path.Path) bool {
	for _, step := range p.L {
		if step < 0 || step > 15 {
			return false
		}
	}
	return len(p.L) == 1 || len(p.L) == 2 || len(p.L) == 3
}

// callMayBe tells of a call whether it may be, and is one to copy, mint or move.
func callMayBe(c call.Call) bool {
	if !wayMayBe(c.A) || !wayMayBe(c.B) || c.W != 0 {
		return false
	}
	switch c.Op {
	case 2:
		return c.X > -1 && c.X < 8 && c.Y == 0
	case 3:
		return c.X > -1 && c.X < 8 && c.Y > 0 && c.Y < 65536
	case 4:
		return c.X == 0 && c.Y == 0
	}
	return false
}

// refusal is one of the chapter's: each asks for itself alone.
type refusal[V any] struct {
	name  string
	e     api.Errno
	holds func(v V) bool
}

// broken gives the places, in their order, of the refusals that hold: none of what goes well.
func broken[V any](l []refusal[V], v V) []int {
	var held []int
	for i, x := range l {
		if x.holds(v) {
			held = append(held, i)
		}
	}
	return held
}

// view is a call on a state, with what its ways lead to: -1 where they lead nowhere, also of what may not be.
type view struct {
	s        state.State
	thread   int
	c        call.Call
	good     bool
	there    bool // is the thread
	from, to int
}

func look(s state.State, thread int, c call.Call) view {
	v := view{s: s, thread: thread, c: c, good: state.Good(s), from: -1, to: -1}
	v.there = thread >= 0 && thread < s.Geo.Threads
	if v.good && v.there && wayMayBe(c.A) {
		v.from = leadTold(s, thread, c.A.L)
	}
	if v.good && v.there && wayMayBe(c.B) {
		v.to = leadTold(s, thread, c.B.L)
	}
	return v
}

// at is what A leads to: no capability, if it leads nowhere.
func (v view) at() cap.Cap {
	if v.from < 0 {
		return cap.Cap{}
	}
	return v.s.Slots[v.from].Cap
}

func (v view) none() bool { return v.at() == cap.Cap{} }

// ofDo are Do's refusals, in the chapter's order.
func ofDo() []refusal[view] {
	return []refusal[view]{
		{"state", 1, func(v view) bool { return !v.good }},
		{"call", 1, func(v view) bool { return !callMayBe(v.c) }},
		{"thread", 1, func(v view) bool { return !v.there }},
		{"no slot A", 3, func(v view) bool { return v.good && v.there && wayMayBe(v.c.A) && v.from < 0 }},
		{"nothing at A", 4, func(v view) bool { return v.from >= 0 && v.none() }},
		{"bears no badge", 7, func(v view) bool { return v.c.Op == 3 && !v.none() && v.at().Type != 3 && v.at().Type != 4 }},
		{"has a badge", 5, func(v view) bool { return v.c.Op == 3 && v.at().Badge != 0 }},
		{"no slot B", 3, func(v view) bool { return v.good && v.there && wayMayBe(v.c.B) && v.to < 0 }},
		{"taken", 5, func(v view) bool { return v.to >= 0 && v.s.Slots[v.to].Cap != cap.Cap{} }},
		{"a Room's", 7, func(v view) bool { return v.c.Op == 2 && v.at().Type == 1 }},
		{"a ring", 1, func(v view) bool {
			return v.c.Op != 3 && v.at().Type == 2 && v.to >= 0 && ringTold(v.s, v.at().Thing, v.to)
		}},
	}
}

// doTold is what Do must answer.
func (v view) doTold() (state.State, state.Reply) {
	if l := broken(ofDo(), v); len(l) > 0 {
		return v.s, state.Reply{Err: ofDo()[l[0]].e}
	}
	if v.c.Op == 4 {
		return movedTold(v.s, v.from, v.to), state.Reply{}
	}
	s := copyOf(v.s)
	s.Slots[v.to] = state.Slot{Cap: cutTold(v.at(), v.c.X), Up: v.from}
	if v.c.Op == 3 {
		s.Slots[v.to].Cap.Badge = v.c.Y
	}
	return s, state.Reply{}
}

// movedTold is a state with one slot's number put in place of another's, wherever that was told.
func movedTold(s state.State, from, to int) state.State {
	s = copyOf(s)
	s.Slots[from], s.Slots[to] = s.Slots[to], s.Slots[from]
	for i := range s.Slots {
		if s.Slots[i].Up == from {
			s.Slots[i].Up = to
		}
	}
	for i := range s.Things {
		if s.Things[i].Type == 3 && s.Things[i].From-1 == from {
			s.Things[i].From = to + 1
		}
	}
	return s
}

// check holds Do of a call against the second telling, and the state that was handed in against what it was.
func check(t *testing.T, s state.State, thread int, c call.Call) (state.State, state.Reply) {
	t.Helper()
	before := copyOf(s)
	wantState, want := look(s, thread, c).doTold()
	next, r := give.Do(s, thread, c)
	if r != want {
		t.Errorf("P16.1: Do(%d, %s): %+v, want %+v, of %s", thread, short(c), r, want, tell(s))
	}
	if !state.Same(next, wantState) {
		t.Errorf("P16.1: Do(%d, %s): %s, want %s, of %s", thread, short(c), tell(next), tell(wantState), tell(s))
	}
	if r.Err == api.OK && !state.Good(next) {
		t.Errorf("P16.1: Do(%d, %s): not Good: %s", thread, short(c), tell(next))
	}
	if !state.Same(s, before) {
		t.Errorf("R4: Do(%d, %s) changed the state that it was handed: %s, was %s", thread, short(c), tell(s), tell(before))
	}
	return next, r
}

// putting is what is asked of Put.
type putting struct {
	s        state.State
	from, to int
	c        cap.Cap
	good     bool
}

func isSlot(s state.State, i int) bool { return i >= 0 && i < len(s.Slots) }

// had is what is in from: no capability, if that may not be asked.
func (p putting) had() cap.Cap {
	if !p.good || !isSlot(p.s, p.from) {
		return cap.Cap{}
	}
	return p.s.Slots[p.from].Cap
}

func (p putting) none() bool { return p.had() == cap.Cap{} }

// ofPut are Put's refusals, in the chapter's order.
func ofPut() []refusal[putting] {
	return []refusal[putting]{
		{"state", 1, func(p putting) bool { return !p.good }},
		{"from no slot", 1, func(p putting) bool { return !isSlot(p.s, p.from) }},
		{"to no slot", 1, func(p putting) bool { return !isSlot(p.s, p.to) }},
		{"to no Node's", 1, func(p putting) bool { return p.good && isSlot(p.s, p.to) && ownerTold(p.s, p.to) < 0 }},
		{"may not be", 1, func(p putting) bool { return !capMayBe(p.c) }},
		{"none", 1, func(p putting) bool { return p.c == cap.Cap{} }},
		{"nothing in from", 4, func(p putting) bool { return p.good && isSlot(p.s, p.from) && p.none() }},
		{"taken", 5, func(p putting) bool { return p.good && isSlot(p.s, p.to) && p.s.Slots[p.to].Cap != cap.Cap{} }},
		{"a Room's", 7, func(p putting) bool { return p.had().Type == 1 }},
		{"more", 1, func(p putting) bool { return !p.none() && p.c != cap.Cap{} && !lessTold(p.c, p.had()) }},
		{"a ring", 1, func(p putting) bool {
			return p.good && isSlot(p.s, p.to) && p.c.Type == 2 && ringTold(p.s, p.c.Thing, p.to)
		}},
	}
}

// checkPut holds Put against the second telling, and the state that was handed in against what it was.
func checkPut(t *testing.T, s state.State, from, to int, c cap.Cap) (state.State, api.Errno) {
	t.Helper()
	before, want, wantState := copyOf(s), api.OK, copyOf(s)
	if l := broken(ofPut(), putting{s, from, to, c, state.Good(s)}); len(l) > 0 {
		want = ofPut()[l[0]].e
	} else {
		wantState.Slots[to] = state.Slot{Cap: c, Up: from}
	}
	next, e := give.Put(s, from, to, c)
	if e != want {
		t.Errorf("P16.1: Put(%d, %d, %+v): %d, want %d, of %s", from, to, c, e, want, tell(s))
	}
	if !state.Same(next, wantState) {
		t.Errorf("P16.1: Put(%d, %d, %+v): %s, want %s, of %s", from, to, c, tell(next), tell(wantState), tell(s))
	}
	if e == api.OK && !state.Good(next) {
		t.Errorf("P16.1: Put(%d, %d, %+v): not Good: %s", from, to, c, tell(next))
	}
	if !state.Same(s, before) {
		t.Errorf("R4: Put(%d, %d, %+v) changed the state that it was handed: %s, was %s", from, to, c, tell(s), tell(before))
	}
	return next, e
}

// far gives numbers that are no slot, no thing and no thread: some with small numbers in their low bits.
func far() []int {
	return []int{math.MinInt, math.MinInt + 1, -1 << 32, 1 - 1<<32, -1 << 31, -97, -9, -2, -1, 97, 1 << 8, 1<<8 + 1, 1<<16 + 1, 1 << 31, 1 << 32, 1<<32 + 1, 1<<32 + 8, 1 << 62, math.MaxInt - 1, math.MaxInt}
}

// first is the first state of so many threads, with all slots that there may be.
func first(threads int) state.State {
	s, _ := state.New(geo.Geo{Threads: threads, Slots: 96, Things: 20}, 64)
	return s
}

func toCopy(a, b []int, rights int) call.Call {
	return call.Call{Op: 2, A: way(a...), B: way(b...), X: rights}
}

func toMint(a, b []int, rights, badge int) call.Call {
	return call.Call{Op: 3, A: way(a...), B: way(b...), X: rights, Y: badge}
}

func toMove(a, b []int) call.Call { return call.Call{Op: 4, A: way(a...), B: way(b...)} }
