package take_test

import (
	"fmt"
	"slices"
	"testing"

	"reeve/api"
	"reeve/call"
	"reeve/carve"
	"reeve/forest"
	"reeve/geo"
	"reeve/give"
	"reeve/state"
	"reeve/take"
	"reeve/thing"
)

// dice tells numbers that seem to be any, but are the same in each run.
type dice uint64

func (d *dice) below(n int) int {
	*d ^= *d << 13
	*d ^= *d >> 7
	*d ^= *d << 17
	return int(uint64(*d) >> 11 % uint64(n))
}

func pick[T any](d *dice, l []T) T { return l[d.below(len(l))] }

func anyGeo(d *dice) geo.Geo {
	threads := 1 + d.below(4)
	return geo.Geo{Threads: threads, Slots: 8 * (threads + d.below(13-threads)), Things: threads + 2 + d.below(47-threads)}
}

// ofKind tells of slots whether they have a capability of that kind.
func ofKind(kind int) func(x state.Slot) bool {
	return func(x state.Slot) bool { return x.Cap.Type == kind }
}

// slotsWith gives the slots of nodes that are as is asked.
func slotsWith(s state.State, asked func(x state.Slot) bool) []int {
	var l []int
	for _, x := range s.Things {
		for _, i := range slotsOf(x) {
			if asked(s.Slots[i]) {
				l = append(l, i)
			}
		}
	}
	return l
}

// anyThing makes a thing of any kind, nodes and boxes more often: not each may stand in this state.
func anyThing(d *dice, s state.State) thing.Thing {
	switch d.below(10) {
	case 0:
		return thing.Thing{Type: 1, Size: 1 + d.below(4096)}
	case 1, 2, 3, 4:
		bits := 1 + d.below(4)
		return thing.Thing{Type: 2, Bits: bits, Base: d.below(max(1, len(s.Slots)-1<<bits+1))}
	case 5, 6:
		return boxOf(pick(d, append(slotsWith(s, isFull), -1)))
	case 7, 8:
		return thing.Thing{Type: 4, Word: uint64(d.below(9))}
	}
	return thing.Thing{Type: 5, Data: [4]uint64{3: uint64(d.below(9))}}
}

// addThing puts any thing, and its capability, made of a room or come of nothing.
func addThing(d *dice, s *state.State, to int) {
	n := slices.Index(s.Things, thing.Thing{})
	if n < 0 {
		return
	}
	x, up := anyThing(d, *s), pick(d, append(slotsWith(*s, ofKind(1)), -1))
	s.Things[n] = x
	s.Slots[to] = slot(x.Type, n, d.below(8)|pick(d, []int{0, 1, 7}), 0, up)
}

// addRoot puts a capability of a thread's root, which no call makes.
func addRoot(d *dice, s *state.State, to int) {
	s.Slots[to] = slot(2, 2+d.below(s.Geo.Threads), d.below(8), 0, -1)
}

// addCopy puts a capability with fewer rights, maybe with a badge, that came of another one, or of nothing.
func addCopy(d *dice, s *state.State, to int) {
	l := slotsWith(*s, isFull)
	if len(l) == 0 {
		return
	}
	from := pick(d, l)
	c := s.Slots[from].Cap
	c.Rights &= d.below(8) | d.below(8) | d.below(8)
	if (c.Type == 3 || c.Type == 4) && c.Badge == 0 && d.below(3) == 0 {
		c.Badge = pick(d, []int{1, 1 + d.below(65535), 65535})
	}
	s.Slots[to] = state.Slot{Cap: c, Up: pick(d, []int{from, from, from, -1})}
}

// fillBox lets some box hand on what is in some slot, or nothing.
func fillBox(d *dice, s *state.State) {
	if n := d.below(len(s.Things)); s.Things[n].Type == 3 {
		s.Things[n] = boxOf(pick(d, append(slotsWith(*s, isFull), -1)))
	}
}

// moveOne puts what is in some slot in another one, with all that tells of it: so a room may come to stand in a node that was made of it.
func moveOne(d *dice, s *state.State, to int) {
	l := slotsWith(*s, isFull)
	if len(l) == 0 {
		return
	}
	from := pick(d, l)
	s.Slots[from], s.Slots[to] = s.Slots[to], s.Slots[from]
	for i := range s.Slots {
		if s.Slots[i].Up == from {
			s.Slots[i].Up = to
		}
	}
	for i := range s.Things {
		if s.Things[i].From == from+1 {
			s.Things[i].From = to + 1
		}
	}
}

// turnRight changes one right of what is in a slot.
func turnRight(d *dice, s *state.State) {
	if l := slotsWith(*s, isFull); len(l) > 0 {
		s.Slots[pick(d, l)].Cap.Rights ^= pick(d, []int{1, 2, 4})
	}
}

// grow makes a state that may be, in which much is there: each change stays only if it leaves the state Good.
func grow(d *dice) state.State {
	s, _ := state.New(anyGeo(d), 64)
	for range 4 + d.below(pick(d, []int{20, 100, 200})) {
		x, l := copyOf(s), slotsWith(s, isEmpty)
		switch {
		case d.below(5) == 0:
			fillBox(d, &x)
		case d.below(9) == 0 || len(l) == 0:
			turnRight(d, &x)
		case d.below(12) == 0:
			addRoot(d, &x, pick(d, l))
		case d.below(5) == 0:
			moveOne(d, &x, pick(d, l))
		case d.below(2) == 0:
			addCopy(d, &x, pick(d, l))
		default:
			addThing(d, &x, pick(d, l))
		}
		if state.Good(x) {
			s = x
		}
	}
	return s
}

// waysTo gives a thread's ways that lead to slots that are as is asked.
func waysTo(s state.State, thread int, asked func(x state.Slot) bool) [][]int {
	var l [][]int
	goOn := [][]int{nil}
	for range 3 {
		var next [][]int
		for _, begun := range goOn {
			for step := range 16 {
				w := slices.Concat(begun, []int{step})
				at := leadTold(s, thread, w)
				if at >= 0 && asked(s.Slots[at]) {
					l = append(l, w)
				}
				if at >= 0 && s.Slots[at].Cap.Type == 2 {
					next = append(next, w)
				}
			}
		}
		goOn = next
	}
	return l
}

// anyWay gives a way to a slot that is as is asked, mostly: else any way.
func anyWay(d *dice, s state.State, thread int, asked func(x state.Slot) bool) []int {
	l := waysTo(s, thread, asked)
	if len(l) > 0 && d.below(6) > 0 {
		return pick(d, l)
	}
	return []int{d.below(16), d.below(16), d.below(16)}[:1+d.below(3)]
}

// anyCall gives one to delete or revoke, which mostly has a chance to go well.
func anyCall(d *dice, s state.State, thread int) call.Call {
	asked := pick(d, []func(x state.Slot) bool{isFull, ofKind(1), ofKind(2), ofKind(2), ofKind(3), ofKind(4), ofKind(5), isEmpty})
	return call.Call{Op: 5 + d.below(2), A: way(anyWay(d, s, thread, asked)...)}
}

// twistCall changes a call in one place.
func twistCall(d *dice, c *call.Call) {
	n := pick(d, append(far(), -1, 0, 1, 7, 8, 16, 65535, 65536))
	pick(d, []func(){
		func() { c.Op = n }, func() { c.Op = 1 + d.below(13) }, func() { c.X = n }, func() { c.Y = n }, func() { c.W = uint64(n) }, func() { c.A = way() }, func() { c.B = way(d.below(16)) },
		func() { c.A.L[0] = n }, func() { c.A.L = append(c.A.L, 0, 0) },
	})()
}

// anyList gives numbers of slots, full ones more often: also some twice, and such as are no slots.
func anyList(d *dice, s state.State) []int {
	var l []int
	full, from := slotsWith(s, isFull), append(far(), len(s.Slots), len(s.Slots)-1)
	for range d.below(pick(d, []int{3, 8, 60})) {
		switch {
		case d.below(9) == 0:
			l = append(l, pick(d, from))
		case d.below(5) == 0 || len(full) == 0:
			l = append(l, d.below(len(s.Slots)))
		case d.below(9) == 0 && len(l) > 0:
			l = append(l, pick(d, l))
		default:
			l = append(l, pick(d, full))
		}
	}
	return l
}

// twist changes a state in one place: mostly it is not Good then.
func twist(d *dice, s *state.State) {
	n := d.below(20) - 2
	if d.below(4) == 0 {
		n = pick(d, far())
	}
	x, y := &s.Slots[d.below(len(s.Slots))], &s.Things[d.below(len(s.Things))]
	pick(d, []func(){
		func() { x.Cap.Type = n }, func() { x.Cap.Thing = n }, func() { x.Cap.Rights = n }, func() { x.Cap.Badge = n }, func() { x.Up = n },
		func() { y.Type = n }, func() { y.Bits = n }, func() { y.Base = n }, func() { y.Size = n }, func() { y.From = n }, func() { y.Badge = n }, func() { y.Full = !y.Full },
		func() { s.Geo.Threads = n }, func() { s.Geo.Slots = n }, func() { s.Geo.Things = n },
		func() { s.Slots = s.Slots[:d.below(len(s.Slots))] }, func() { s.Things = s.Things[:d.below(len(s.Things))] },
	})()
}

// seen counts of which refusals each held alone, and of which the first held with which other ones; and what it was that went well.
type seen struct {
	alone map[int]int
	both  map[[2]int]int
	well  map[string]int
}

func nothingSeen() seen {
	return seen{alone: map[int]int{}, both: map[[2]int]int{}, well: map[string]int{}}
}

// count takes the refusals that held, of which there is one at least.
func (n *seen) count(held []int) {
	if len(held) == 1 {
		n.alone[held[0]]++
	}
	for _, other := range held[1:] {
		n.both[[2]int{held[0], other}]++
	}
}

// countWell takes what went.
func (n *seen) countWell(what string, asked []int, g going) {
	for _, x := range wellOf(asked, g) {
		n.well[what+" "+x]++
	}
}

// enough holds what was seen: each refusal must have held alone, and with each other one behind it with which it can, else the test would not tell them apart.
func (n *seen) enough(t *testing.T, together [][]int) {
	t.Helper()
	for i, l := range together {
		if n.alone[i] < 20 {
			t.Errorf("refusal %d held alone %d times", i, n.alone[i])
		}
		for _, other := range l {
			if n.both[[2]int{i, other}] < 5 {
				t.Errorf("refusals %d and %d held at once %d times", i, other, n.both[[2]int{i, other}])
			}
		}
	}
}

// enoughWell holds what went well: all that may go along must have gone so.
func (n *seen) enoughWell(t *testing.T, what string, l ...string) {
	t.Helper()
	for _, x := range l {
		if n.well[what+" "+x] < 10 {
			t.Errorf("%s %s went well %d times", what, x, n.well[what+" "+x])
		}
	}
}

// wellOf tells what goes of a list of slots, by the kinds of it and by what else is changed with it.
func wellOf(asked []int, g going) []string {
	var l []string
	note := func(holds bool, what string) {
		if holds && !slices.Contains(l, what) {
			l = append(l, what)
		}
	}
	note(len(g.slots) == 0, "of nothing")
	note(len(g.things) == 0 && len(g.slots) > 0, "of slots alone")
	for i := range g.slots {
		note(true, fmt.Sprintf("of kind %d", g.s.Slots[i].Cap.Type))
		note(!slices.Contains(asked, i), "of a slot that is not asked for")
		note(g.s.Slots[i].Cap.Thing-2 < g.s.Geo.Threads && g.s.Slots[i].Cap.Type == 2 && g.s.Slots[i].Cap.Thing > 1, "of a root's")
	}
	nodes := 0
	for i := range g.things {
		note(true, fmt.Sprintf("of thing %d", g.s.Things[i].Type))
		if g.s.Things[i].Type == 2 {
			nodes++
		}
	}
	note(nodes > 1, "of several nodes")
	for i, x := range g.s.Slots {
		if g.slots[i] || x.Up < 0 || !g.slots[x.Up] {
			continue
		}
		note(true, "of what something came of")
		note(g.s.Slots[x.Up].Up >= 0 && g.slots[g.s.Slots[x.Up].Up], "of several above one another")
		note(g.left().Slots[i].Up >= 0, "of what came of something that is left")
	}
	for i, x := range g.s.Things {
		note(x.From > 0 && g.slots[x.From-1] && !g.things[i], "of what a box hands on")
		note(x.From > 0 && g.slots[x.From-1] && g.things[i], "of a box that goes with what it hands on")
	}
	return l
}

// Any calls on any states, of which some are twisted; what goes well is gone on from, so that what is taken is taken of what was.
func TestAnyStatesAndCalls(t *testing.T) {
	d, n := dice(88172645463325252), nothingSeen()
	ask := func(s state.State, thread int, c call.Call) (state.State, state.Reply) {
		v := look(s, thread, c)
		if held := broken(ofDo(), v); len(held) > 0 {
			n.count(held)
		} else if c.Op == 5 {
			n.countWell("delete", []int{v.from}, v.going())
		} else {
			n.countWell("revoke", belowTold(s, v.from), v.going())
			if v.going().slots[v.from] {
				n.well["revoke of its own slot, too"]++
			}
		}
		return check(t, s, thread, c)
	}
	for range 1800 {
		s := grow(&d)
		for range 30 {
			thread := d.below(s.Geo.Threads)
			c := anyCall(&d, s, thread)
			if d.below(6) == 0 {
				twistCall(&d, &c)
			}
			if d.below(8) == 0 {
				thread = pick(&d, append(far(), s.Geo.Threads))
			}
			if next, r := ask(s, thread, c); r.Err == api.OK && d.below(4) == 0 {
				s = next
			}
		}
		bad := copyOf(s)
		twist(&d, &bad)
		for range 6 {
			thread := d.below(s.Geo.Threads+2) - 1
			c := anyCall(&d, s, max(0, min(thread, s.Geo.Threads-1)))
			if d.below(3) == 0 {
				twistCall(&d, &c)
			}
			ask(bad, thread, c)
		}
	}
	// by their places in ofDo
	n.enough(t, [][]int{{1, 2}, {2, 3, 4}, {}, {}, {}})
	for _, what := range []string{"delete", "revoke"} {
		n.enoughWell(t, what, "of slots alone", "of kind 1", "of kind 2", "of kind 3", "of kind 4", "of kind 5", "of thing 1", "of thing 2", "of thing 3", "of thing 4", "of thing 5", "of a slot that is not asked for", "of a root's",
			"of several nodes", "of what something came of", "of several above one another", "of what came of something that is left", "of what a box hands on", "of a box that goes with what it hands on")
	}
	n.enoughWell(t, "revoke", "of nothing", "of its own slot, too")
}

// shuffled is a list in another order.
func shuffled(d *dice, l []int) []int {
	l = slices.Clone(l)
	for i := range l {
		j := i + d.below(len(l)-i)
		l[i], l[j] = l[j], l[i]
	}
	return l
}

// Empty of any lists of any states, of which some are twisted: in whatever order, and in two parts, it is the same.
func TestAnyEmpty(t *testing.T) {
	d, n := dice(2862933555777941757), nothingSeen()
	for range 900 {
		s := grow(&d)
		for range 12 {
			l := anyList(&d, s)
			n.countWell("Empty", l, goingTold(s, l))
			next, many := checkEmpty(t, s, l)
			if other, count := checkEmpty(t, s, shuffled(&d, l)); count != many || !state.Same(other, next) {
				t.Errorf("P17.1: Empty(%d) hangs on the order: %d and %d, of %s", l, many, count, tell(s))
			}
			cut := d.below(len(l) + 1)
			half, one := checkEmpty(t, s, l[:cut])
			if whole, two := checkEmpty(t, half, l[cut:]); one+two != many || !state.Same(whole, next) {
				t.Errorf("P17.1: Empty(%d) in two parts: %d and %d, at once %d, of %s", l, one, two, many, tell(s))
			}
			if d.below(3) == 0 {
				s = next
			}
		}
		bad := copyOf(s)
		twist(&d, &bad)
		for range 4 {
			checkEmpty(t, bad, anyList(&d, s))
		}
	}
	n.enoughWell(t, "Empty", "of nothing", "of slots alone", "of kind 1", "of kind 2", "of kind 3", "of kind 4", "of kind 5", "of thing 1", "of thing 2", "of thing 3", "of thing 4", "of thing 5", "of a slot that is not asked for", "of a root's",
		"of several nodes", "of what something came of", "of several above one another", "of what came of something that is left", "of what a box hands on", "of a box that goes with what it hands on")
}

// What was revoked is gone: nothing is below it any more, each capability that is left was there, and what it came of stood above it.
func TestWhatIsLeft(t *testing.T) {
	d := dice(6364136223846793005)
	for range 400 {
		s := grow(&d)
		thread := d.below(s.Geo.Threads)
		l := waysTo(s, thread, isFull)
		if len(l) == 0 {
			continue
		}
		a := pick(&d, l)
		at := leadTold(s, thread, a)
		next, r := take.Do(s, thread, toRevoke(a...))
		if left := forest.Below(state.Forest(next), at); r.Err != api.OK || len(left) > 0 {
			t.Errorf("T3: behind revoke %d there is %d below it: %+v, of %s", a, left, r, tell(s))
		}
		emptied := 0
		for i, x := range next.Slots {
			if isEmpty(x) && isFull(s.Slots[i]) {
				emptied++
				continue
			}
			if x.Cap != s.Slots[i].Cap || x.Up != s.Slots[i].Up && x.Up >= 0 && !slices.Contains(belowTold(s, x.Up), i) || slices.Contains(belowTold(s, at), i) {
				t.Errorf("T3: behind revoke %d slot %d has %+v, had %+v, of %s", a, i, x, s.Slots[i], tell(s))
			}
		}
		if emptied != r.N {
			t.Errorf("P17.1: revoke %d: %d, but %d are empty then, of %s", a, r.N, emptied, tell(s))
		}
	}
}

// anyOther gives what a call that makes, copies or moves leaves.
func anyOther(d *dice, s state.State, thread int) state.State {
	a, b := anyWay(d, s, thread, pick(d, []func(x state.Slot) bool{isFull, ofKind(1), ofKind(2)})), anyWay(d, s, thread, isEmpty)
	c := pick(d, []call.Call{{Op: 1, X: 1 + d.below(5), Y: 1 + d.below(4)}, {Op: 1, X: 2, Y: 1 + d.below(3)}, {Op: 2, X: d.below(8) | d.below(8)}, {Op: 2, X: 7}, {Op: 3, X: d.below(8), Y: 1 + d.below(9)}, {Op: 4}})
	c.A, c.B = way(a...), way(b...)
	if c.Op == 1 {
		next, _ := carve.Do(s, thread, c)
		return next
	}
	next, _ := give.Do(s, thread, c)
	return next
}

// Long runs of calls that make, copy, move and take away: each leaves a state that may be.
func TestAnyRuns(t *testing.T) {
	d, taken := dice(1181783497276652981), 0
	for range 120 {
		s, _ := state.New(geo.Geo{Threads: 1 + d.below(4), Slots: 96, Things: 48}, 4096)
		for range 150 {
			thread := d.below(s.Geo.Threads)
			if d.below(6) > 0 {
				s = anyOther(&d, s, thread)
				continue
			}
			next, r := check(t, s, thread, anyCall(&d, s, thread))
			taken += r.N
			// what takes all away is not gone on from: else there is soon nothing left.
			if r.N < 12 {
				s = next
			}
		}
	}
	if taken < 500 {
		t.Errorf("just %d slots were emptied in all runs", taken)
	}
}

// The same is answered however often it is asked, and whatever was asked between.
func TestNothingIsKept(t *testing.T) {
	d := dice(3202034522624059733)
	for range 40 {
		a, b := grow(&d), grow(&d)
		for range 10 {
			c, l := anyCall(&d, a, 0), anyList(&d, a)
			told := func() string {
				next, r := take.Do(a, 0, c)
				left, n := take.Empty(a, l)
				return fmt.Sprint(next, r, left, n)
			}
			one := told()
			for range 3 {
				take.Do(b, 0, anyCall(&d, b, 0))
				take.Empty(b, anyList(&d, b))
			}
			if again := told(); again != one {
				t.Errorf("R5: Do(0, %s), Empty(%d): %s, then %s", short(c), l, one, again)
			}
		}
	}
}
