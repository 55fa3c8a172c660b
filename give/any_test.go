package give_test

import (
	"fmt"
	"slices"
	"testing"

	"reeve/api"
	"reeve/call"
	"reeve/cap"
	"reeve/geo"
	"reeve/give"
	"reeve/state"
	"reeve/thing"
)

// dice tells numbers that seem to be any, but are the same in each run.
type dice uint64

func (d *dice) below(n int) int {
	*d ^= *d << 13
	*d ^= *d >> 7
	*d ^= *d << 17
	return int(uint64(*d) >> 11 % uint64(n))
}

func pick[T any](d *dice, l []T) T { return l[d.below(len(l))] }

func anyGeo(d *dice) geo.Geo {
	threads := 1 + d.below(4)
	return geo.Geo{Threads: threads, Slots: 8 * (threads + d.below(13-threads)), Things: threads + 2 + d.below(47-threads)}
}

func isEmpty(x state.Slot) bool { return x.Cap == cap.Cap{} }

func isFull(x state.Slot) bool { return x.Cap != cap.Cap{} }

// ofKind tells of slots whether they have a capability of that kind.
func ofKind(kind int) func(x state.Slot) bool {
	return func(x state.Slot) bool { return x.Cap.Type == kind }
}

// slotsWith gives the slots of nodes that are as is asked.
func slotsWith(s state.State, asked func(x state.Slot) bool) []int {
	var l []int
	for _, x := range s.Things {
		for _, i := range slotsOf(x) {
			if asked(s.Slots[i]) {
				l = append(l, i)
			}
		}
	}
	return l
}

// anyThing makes a thing of any kind, nodes and boxes more often: not each may stand in this state.
func anyThing(d *dice, s state.State) thing.Thing {
	switch d.below(10) {
	case 0:
		return thing.Thing{Type: 1, Size: 1 + d.below(4096)}
	case 1, 2, 3, 4:
		bits := 1 + d.below(4)
		return thing.Thing{Type: 2, Bits: bits, Base: d.below(max(1, len(s.Slots)-1<<bits+1))}
	case 5, 6:
		return boxOf(pick(d, append(slotsWith(s, isFull), -1)))
	case 7, 8:
		return thing.Thing{Type: 4, Word: uint64(d.below(9))}
	}
	return thing.Thing{Type: 5, Data: [4]uint64{3: uint64(d.below(9))}}
}

// addThing puts any thing, and its capability, made of a room or come of nothing.
func addThing(d *dice, s *state.State, to int) {
	n := slices.Index(s.Things, thing.Thing{})
	if n < 0 {
		return
	}
	x, up := anyThing(d, *s), pick(d, append(slotsWith(*s, ofKind(1)), -1))
	s.Things[n] = x
	s.Slots[to] = slot(x.Type, n, d.below(8)|pick(d, []int{0, 1, 7}), 0, up)
}

// addCopy puts a capability with fewer rights, maybe with a badge, that came of another one, or of nothing.
func addCopy(d *dice, s *state.State, to int) {
	l := slotsWith(*s, isFull)
	if len(l) == 0 {
		return
	}
	from := pick(d, l)
	c := s.Slots[from].Cap
	c.Rights &= d.below(8) | d.below(8) | d.below(8)
	if (c.Type == 3 || c.Type == 4) && c.Badge == 0 && d.below(3) == 0 {
		c.Badge = pick(d, []int{1, 1 + d.below(65535), 65535})
	}
	s.Slots[to] = state.Slot{Cap: c, Up: pick(d, []int{from, from, from, -1})}
}

// fillBox lets some box hand on what is in some slot, or nothing.
func fillBox(d *dice, s *state.State) {
	if n := d.below(len(s.Things)); s.Things[n].Type == 3 {
		s.Things[n] = boxOf(pick(d, append(slotsWith(*s, isFull), -1)))
	}
}

// turnRight changes one right of what is in a slot.
func turnRight(d *dice, s *state.State) {
	if l := slotsWith(*s, isFull); len(l) > 0 {
		s.Slots[pick(d, l)].Cap.Rights ^= pick(d, []int{1, 2, 4})
	}
}

// grow makes a state that may be, in which much is there: each change stays only if it leaves the state Good.
func grow(d *dice) state.State {
	s, _ := state.New(anyGeo(d), 64)
	for range 4 + d.below(pick(d, []int{20, 100})) {
		x, l := copyOf(s), slotsWith(s, isEmpty)
		switch {
		case d.below(5) == 0:
			fillBox(d, &x)
		case d.below(9) == 0 || len(l) == 0:
			turnRight(d, &x)
		case d.below(2) == 0:
			addCopy(d, &x, pick(d, l))
		default:
			addThing(d, &x, pick(d, l))
		}
		if state.Good(x) {
			s = x
		}
	}
	return s
}

// waysTo gives a thread's ways that lead to slots that are as is asked.
func waysTo(s state.State, thread int, asked func(x state.Slot) bool) [][]int {
	var l [][]int
	goOn := [][]int{nil}
	for range 3 {
		var next [][]int
		for _, begun := range goOn {
			for step := range 16 {
				w := slices.Concat(begun, []int{step})
				at := leadTold(s, thread, w)
				if at >= 0 && asked(s.Slots[at]) {
					l = append(l, w)
				}
				if at >= 0 && s.Slots[at].Cap.Type == 2 {
					next = append(next, w)
				}
			}
		}
		goOn = next
	}
	return l
}

// anyWay gives a way to a slot that is as is asked, mostly: else any way.
func anyWay(d *dice, s state.State, thread int, asked func(x state.Slot) bool) []int {
	l := waysTo(s, thread, asked)
	if len(l) > 0 && d.below(6) > 0 {
		return pick(d, l)
	}
	return []int{d.below(16), d.below(16), d.below(16)}[:1+d.below(3)]
}

// anyCall gives one to copy, mint or move, which mostly has a chance to go well.
func anyCall(d *dice, s state.State, thread int) call.Call {
	a := anyWay(d, s, thread, pick(d, []func(x state.Slot) bool{isFull, isFull, ofKind(2), ofKind(2), ofKind(3), ofKind(4), ofKind(5), ofKind(1), isEmpty}))
	b := anyWay(d, s, thread, pick(d, []func(x state.Slot) bool{isEmpty, isEmpty, isEmpty, isFull}))
	switch d.below(3) {
	case 0:
		return toCopy(a, b, d.below(8))
	case 1:
		return toMint(a, b, d.below(8), pick(d, []int{1, 1 + d.below(65535), 65535}))
	}
	return toMove(a, b)
}

// twistCall changes a call in one place.
func twistCall(d *dice, c *call.Call) {
	n := pick(d, append(far(), -1, 0, 1, 7, 8, 16, 65535, 65536))
	pick(d, []func(){
		func() { c.Op = n }, func() { c.Op = 1 + d.below(13) }, func() { c.X = n }, func() { c.Y = n }, func() { c.W = uint64(n) }, func() { c.A = way() }, func() { c.B = way() },
		func() { c.A.L[0] = n }, func() { c.B.L[0] = n }, func() { c.A.L = append(c.A.L, 0, 0) }, func() { c.B.L = append(c.B.L, 0, 0, 0) },
	})()
}

// anyPut gives what is asked of Put, which mostly has a chance to go well.
func anyPut(d *dice, s state.State) putting {
	p := putting{s: s, from: d.below(len(s.Slots)), to: d.below(len(s.Slots)), good: state.Good(s)}
	if l := slotsWith(s, pick(d, []func(x state.Slot) bool{isFull, isFull, ofKind(2), ofKind(1)})); len(l) > 0 && d.below(8) > 0 {
		p.from = pick(d, l)
	}
	if l := slotsWith(s, isEmpty); len(l) > 0 && d.below(3) > 0 {
		p.to = pick(d, l)
	}
	other := p.from
	if l := slotsWith(s, isFull); len(l) > 0 && (isEmpty(s.Slots[other]) || d.below(8) == 0) {
		other = pick(d, l)
	}
	p.c = s.Slots[other].Cap
	p.c.Rights &= d.below(8)
	if p.c.Type > 2 && p.c.Type < 5 && d.below(4) == 0 {
		p.c.Badge = 1 + d.below(3)
	}
	return p
}

// twistPut changes what is asked of Put in one place.
func twistPut(d *dice, p *putting) {
	n := pick(d, append(far(), 0, 1, 5, 7, 8, 48, len(p.s.Slots)))
	pick(d, []func(){
		func() { p.from = n }, func() { p.to = n }, func() { p.to = p.from }, func() { p.c = cap.Cap{} },
		func() { p.c.Type = n }, func() { p.c.Thing = n }, func() { p.c.Rights = n }, func() { p.c.Badge = n }, func() { p.c.Rights = d.below(8) }, func() { p.c.Thing = d.below(8) },
	})()
}

// twist changes a state in one place: mostly it is not Good then.
func twist(d *dice, s *state.State) {
	n := d.below(20) - 2
	if d.below(4) == 0 {
		n = pick(d, far())
	}
	x, y := &s.Slots[d.below(len(s.Slots))], &s.Things[d.below(len(s.Things))]
	pick(d, []func(){
		func() { x.Cap.Type = n }, func() { x.Cap.Thing = n }, func() { x.Cap.Rights = n }, func() { x.Cap.Badge = n }, func() { x.Up = n },
		func() { y.Type = n }, func() { y.Bits = n }, func() { y.Base = n }, func() { y.Size = n }, func() { y.From = n }, func() { y.Badge = n }, func() { y.Full = !y.Full },
		func() { s.Geo.Threads = n }, func() { s.Geo.Slots = n }, func() { s.Geo.Things = n },
		func() { s.Slots = s.Slots[:d.below(len(s.Slots))] }, func() { s.Things = s.Things[:d.below(len(s.Things))] },
	})()
}

// seen counts of which refusals each held alone, and of which the first held with which other ones.
type seen struct {
	alone map[int]int
	both  map[[2]int]int
	well  map[string]int
}

func nothingSeen() seen {
	return seen{alone: map[int]int{}, both: map[[2]int]int{}, well: map[string]int{}}
}

// count takes the refusals that held, or what it was that went well.
func (n *seen) count(held []int, well ...string) {
	if len(held) == 0 {
		for _, x := range well {
			n.well[x]++
		}
		return
	}
	if len(held) == 1 {
		n.alone[held[0]]++
	}
	for _, other := range held[1:] {
		n.both[[2]int{held[0], other}]++
	}
}

// enough holds what was seen: each refusal must have held alone, and with each other one behind it with which it can, and what goes well must have gone so, else the test would not tell them apart.
func (n *seen) enough(t *testing.T, together [][]int, well ...string) {
	t.Helper()
	for i, l := range together {
		if n.alone[i] < 20 {
			t.Errorf("refusal %d held alone %d times", i, n.alone[i])
		}
		for _, other := range l {
			if n.both[[2]int{i, other}] < 5 {
				t.Errorf("refusals %d and %d held at once %d times", i, other, n.both[[2]int{i, other}])
			}
		}
	}
	for _, x := range well {
		if n.well[x] < 100 {
			t.Errorf("%s went well %d times", x, n.well[x])
		}
	}
}

// wellOf tells what a call that goes well is: its Op, and the kind that A leads to; of a move also what tells of A's slot.
func wellOf(v view) []string {
	l := []string{fmt.Sprintf("op %d of kind %d", v.c.Op, v.at().Type)}
	if v.c.Op == 4 && slices.ContainsFunc(v.s.Slots, func(x state.Slot) bool { return x.Up == v.from }) {
		l = append(l, "move of what something came of")
	}
	if v.c.Op == 4 && slices.ContainsFunc(v.s.Things, func(x thing.Thing) bool { return x.From == v.from+1 }) {
		l = append(l, "move of what a box hands on")
	}
	return l
}

// Any calls on any states, of which some are twisted; what goes well is gone on from, so that much came of what came of others.
func TestAnyStatesAndCalls(t *testing.T) {
	d, n := dice(88172645463325252), nothingSeen()
	ask := func(s state.State, thread int, c call.Call) (state.State, state.Reply) {
		v := look(s, thread, c)
		n.count(broken(ofDo(), v), wellOf(v)...)
		return check(t, s, thread, c)
	}
	for range 800 {
		s := grow(&d)
		for range 60 {
			thread := d.below(s.Geo.Threads)
			c := anyCall(&d, s, thread)
			if d.below(6) == 0 {
				twistCall(&d, &c)
			}
			if d.below(8) == 0 {
				thread = pick(&d, append(far(), s.Geo.Threads))
			}
			if next, r := ask(s, thread, c); r.Err == api.OK && d.below(2) == 0 {
				s = next
			}
		}
		bad := copyOf(s)
		twist(&d, &bad)
		for range 6 {
			thread := d.below(s.Geo.Threads+2) - 1
			c := anyCall(&d, s, max(0, min(thread, s.Geo.Threads-1)))
			if d.below(3) == 0 {
				twistCall(&d, &c)
			}
			ask(bad, thread, c)
		}
	}
	// by their places in ofDo
	n.enough(t, [][]int{{1, 2}, {2, 3, 4, 5, 6, 7, 8, 9, 10}, {}, {7, 8}, {7, 8}, {7, 8}, {7, 8}, {9}, {9, 10}, {}, {}},
		"op 2 of kind 2", "op 2 of kind 3", "op 2 of kind 4", "op 2 of kind 5", "op 3 of kind 3", "op 3 of kind 4", "op 4 of kind 1", "op 4 of kind 2", "op 4 of kind 3", "op 4 of kind 4", "op 4 of kind 5", "move of what something came of", "move of what a box hands on")
}

// Put of any on any states, of which some are twisted; what goes well is gone on from.
func TestAnyPut(t *testing.T) {
	d, n := dice(2862933555777941757), nothingSeen()
	ask := func(p putting) (state.State, api.Errno) {
		n.count(broken(ofPut(), p), fmt.Sprintf("put of kind %d", p.c.Type))
		return checkPut(t, p.s, p.from, p.to, p.c)
	}
	for range 800 {
		s := grow(&d)
		for range 40 {
			p := anyPut(&d, s)
			for range max(0, d.below(5)-2) {
				twistPut(&d, &p)
			}
			if next, e := ask(p); e == api.OK && d.below(2) == 0 {
				s = next
			}
		}
		for range 6 {
			p := anyPut(&d, s)
			if d.below(2) == 0 {
				twistPut(&d, &p)
			}
			p.s = copyOf(s)
			twist(&d, &p.s)
			p.good = state.Good(p.s)
			ask(p)
		}
	}
	// by their places in ofPut
	n.enough(t, [][]int{{1, 2, 4, 5}, {2, 3, 4, 5, 7, 10}, {4, 5, 6, 8, 9}, {4, 5, 6, 8, 9}, {6, 7, 8, 9, 10}, {6, 7, 8}, {7, 10}, {8, 9, 10}, {9, 10}, {10}, {}},
		"put of kind 2", "put of kind 3", "put of kind 4", "put of kind 5")
}

// The same is answered however often it is asked, and whatever was asked between.
func TestNothingIsKept(t *testing.T) {
	d := dice(3202034522624059733)
	for range 40 {
		a, b := grow(&d), grow(&d)
		for range 10 {
			c, p := anyCall(&d, a, 0), anyPut(&d, a)
			told := func() string {
				next, r := give.Do(a, 0, c)
				put, e := give.Put(a, p.from, p.to, p.c)
				return fmt.Sprint(next, r, put, e)
			}
			one := told()
			for range 3 {
				q := anyPut(&d, b)
				give.Do(b, 0, anyCall(&d, b, 0))
				give.Put(b, q.from, q.to, q.c)
			}
			if again := told(); again != one {
				t.Errorf("R5: Do(0, %s), Put(%d, %d, %+v): %s, then %s", short(c), p.from, p.to, p.c, one, again)
			}
		}
	}
}
