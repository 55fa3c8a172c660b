package bell_test

import (
	"fmt"
	"math"
	"slices"
	"testing"

	"reeve/api"
	"reeve/bell"
	"reeve/call"
	"reeve/carve"
	"reeve/geo"
	"reeve/give"
	"reeve/mail"
	"reeve/state"
	"reeve/take"
	"reeve/thing"
)

// dice tells numbers that seem to be any, but are the same in each run.
type dice uint64

func (d *dice) below(n int) int {
	*d ^= *d << 13
	*d ^= *d >> 7
	*d ^= *d << 17
	return int(uint64(*d) >> 11 % uint64(n))
}

func pick[T any](d *dice, l []T) T { return l[d.below(len(l))] }

func anyGeo(d *dice) geo.Geo {
	threads := 1 + d.below(4)
	return geo.Geo{Threads: threads, Slots: 8 * (threads + d.below(13-threads)), Things: threads + 2 + d.below(47-threads)}
}

// ofKind tells of slots whether they have a capability of that kind.
func ofKind(kind int) func(x state.Slot) bool {
	return func(x state.Slot) bool { return x.Cap.Type == kind }
}

// ofBell tells of slots whether they have a bell's capability, of one that rang, or of one that did not.
func ofBell(s state.State, rang bool) func(x state.Slot) bool {
	return func(x state.Slot) bool { return x.Cap.Type == 4 && s.Things[x.Cap.Thing].Word > 0 == rang }
}

// slotsWith gives the slots of nodes that are as is asked.
func slotsWith(s state.State, asked func(x state.Slot) bool) []int {
	var l []int
	for _, x := range s.Things {
		for _, i := range slotsOf(x) {
			if asked(s.Slots[i]) {
				l = append(l, i)
			}
		}
	}
	return l
}

// anyWord gives none, one bit, some, or all.
func anyWord(d *dice) uint64 {
	return pick(d, []uint64{0, 0, 1 << d.below(64), 1 << d.below(64), uint64(*d), math.MaxUint64 - 1<<d.below(64), math.MaxUint64})
}

// anyBadge gives one at the edges or any.
func anyBadge(d *dice) int {
	return pick(d, []int{1, 63, 64, 65, 65535, 1 + d.below(64), 1 + d.below(65535)})
}

// anyThing makes a thing of any kind, nodes and bells more often: not each may stand in this state.
func anyThing(d *dice, s state.State) thing.Thing {
	switch d.below(10) {
	case 0:
		return thing.Thing{Type: 1, Size: 1 + d.below(4096)}
	case 1, 2, 3:
		bits := 1 + d.below(4)
		return thing.Thing{Type: 2, Bits: bits, Base: d.below(max(1, len(s.Slots)-1<<bits+1))}
	case 4:
		return thing.Thing{Type: 3}
	case 5:
		return thing.Thing{Type: 3, Full: true, Word: anyWord(d), Badge: d.below(65536), From: 1 + pick(d, append(slotsWith(s, isFull), -1))}
	case 6:
		return thing.Thing{Type: 5, Data: [4]uint64{anyWord(d), anyWord(d), 3, 4}}
	}
	return ringing(anyWord(d))
}

// addThing puts any thing, and its capability, made of a room or come of nothing.
func addThing(d *dice, s *state.State, to int) {
	n := slices.Index(s.Things, thing.Thing{})
	if n < 0 {
		return
	}
	x, up := anyThing(d, *s), pick(d, append(slotsWith(*s, ofKind(1)), -1))
	s.Things[n] = x
	s.Slots[to] = slot(x.Type, n, d.below(8)|pick(d, []int{0, 1, 7}), 0, up)
}

// addCopy puts a capability with fewer rights, maybe with a badge, that came of another one, or of nothing.
func addCopy(d *dice, s *state.State, to int) {
	l := slotsWith(*s, isFull)
	if len(l) == 0 {
		return
	}
	from := pick(d, l)
	c := s.Slots[from].Cap
	c.Rights &= d.below(8) | d.below(8) | d.below(8)
	if (c.Type == 3 || c.Type == 4) && c.Badge == 0 && d.below(3) > 0 {
		c.Badge = anyBadge(d)
	}
	s.Slots[to] = state.Slot{Cap: c, Up: pick(d, []int{from, from, from, -1})}
}

// turnRight changes one right of what is in a slot.
func turnRight(d *dice, s *state.State) {
	if l := slotsWith(*s, isFull); len(l) > 0 {
		s.Slots[pick(d, l)].Cap.Rights ^= pick(d, []int{1, 2, 4})
	}
}

// setWord changes what some bell rang by.
func setWord(d *dice, s *state.State) {
	if n := d.below(len(s.Things)); s.Things[n].Type == 4 {
		s.Things[n].Word = anyWord(d)
	}
}

// grow makes a state that may be, in which much is there: each change stays only if it leaves the state Good.
func grow(d *dice) state.State {
	s, _ := state.New(anyGeo(d), 64)
	for range 4 + d.below(pick(d, []int{20, 100})) {
		x, l := copyOf(s), slotsWith(s, isEmpty)
		switch {
		case d.below(6) == 0:
			setWord(d, &x)
		case d.below(9) == 0 || len(l) == 0:
			turnRight(d, &x)
		case d.below(2) == 0:
			addCopy(d, &x, pick(d, l))
		default:
			addThing(d, &x, pick(d, l))
		}
		if state.Good(x) {
			s = x
		}
	}
	return s
}

// waysTo gives a thread's ways that lead to slots that are as is asked.
func waysTo(s state.State, thread int, asked func(x state.Slot) bool) [][]int {
	var l [][]int
	goOn := [][]int{nil}
	for range 3 {
		var next [][]int
		for _, begun := range goOn {
			for step := range 16 {
				w := slices.Concat(begun, []int{step})
				at := leadTold(s, thread, w)
				if at >= 0 && asked(s.Slots[at]) {
					l = append(l, w)
				}
				if at >= 0 && s.Slots[at].Cap.Type == 2 {
					next = append(next, w)
				}
			}
		}
		goOn = next
	}
	return l
}

// anyWay gives a way to a slot that is as is asked, mostly: else any way.
func anyWay(d *dice, s state.State, thread int, asked func(x state.Slot) bool) []int {
	l := waysTo(s, thread, asked)
	if len(l) > 0 && d.below(8) > 0 {
		return pick(d, l)
	}
	return []int{d.below(16), d.below(16), d.below(16)}[:1+d.below(3)]
}

// anyCall gives one to ring or poll, which mostly has a chance to go well.
func anyCall(d *dice, s state.State, thread int) call.Call {
	a := anyWay(d, s, thread, pick(d, []func(x state.Slot) bool{ofBell(s, true), ofBell(s, true), ofBell(s, true), ofBell(s, false), ofKind(4), isFull, isEmpty}))
	return call.Call{Op: 9 + d.below(2), A: way(a...)}
}

// twistCall changes a call in one place.
func twistCall(d *dice, c *call.Call) {
	n := pick(d, append(far(), -1, 0, 1, 7, 8, 16, 65535, 65536))
	pick(d, []func(){
		func() { c.Op = n }, func() { c.Op = 1 + d.below(13) }, func() { c.X = n }, func() { c.Y = n }, func() { c.W = uint64(n) }, func() { c.W = uint64(n) }, func() { c.B = way(d.below(16)) }, func() { c.A = way() },
		func() { c.A.L = []int{n} }, func() { c.B.L = []int{n} }, func() { c.A.L = append(c.A.L, 0, 0) },
	})()
}

// twist changes a state in one place: mostly it is not Good then.
func twist(d *dice, s *state.State) {
	n := d.below(20) - 2
	if d.below(4) == 0 {
		n = pick(d, far())
	}
	x, y := &s.Slots[d.below(len(s.Slots))], &s.Things[d.below(len(s.Things))]
	pick(d, []func(){
		func() { x.Cap.Type = n }, func() { x.Cap.Thing = n }, func() { x.Cap.Rights = n }, func() { x.Cap.Badge = n }, func() { x.Up = n },
		func() { y.Type = n }, func() { y.Bits = n }, func() { y.Base = n }, func() { y.Size = n }, func() { y.From = n }, func() { y.Badge = n }, func() { y.Full = !y.Full },
		func() { s.Geo.Threads = n }, func() { s.Geo.Slots = n }, func() { s.Geo.Things = n },
		func() { s.Slots = s.Slots[:d.below(len(s.Slots))] }, func() { s.Things = s.Things[:d.below(len(s.Things))] },
	})()
}

// seen counts of which refusals each held alone, and of which the first held with which other ones; and what it was that went well.
type seen struct {
	alone map[int]int
	both  map[[2]int]int
	well  map[string]int
}

func nothingSeen() seen {
	return seen{alone: map[int]int{}, both: map[[2]int]int{}, well: map[string]int{}}
}

// count takes the refusals that held, or what it was that went well.
func (n *seen) count(held []int, v view) {
	if len(held) == 0 {
		for _, x := range wellOf(v) {
			n.well[x]++
		}
		return
	}
	if len(held) == 1 {
		n.alone[held[0]]++
	}
	for _, other := range held[1:] {
		n.both[[2]int{held[0], other}]++
	}
}

// enough holds what was seen: each refusal must have held alone, and with each other one behind it with which it can, and what goes well must have gone so, else the test would not tell them apart.
func (n *seen) enough(t *testing.T, together [][]int, well ...string) {
	t.Helper()
	for i, l := range together {
		if n.alone[i] < 50 {
			t.Errorf("refusal %d held alone %d times", i, n.alone[i])
		}
		for _, other := range l {
			if n.both[[2]int{i, other}] < 20 {
				t.Errorf("refusals %d and %d held at once %d times", i, other, n.both[[2]int{i, other}])
			}
		}
	}
	for _, x := range well {
		if n.well[x] < 50 {
			t.Errorf("%s went well %d times", x, n.well[x])
		}
	}
}

// wellOf tells what a call that goes well is.
func wellOf(v view) []string {
	op, badge, bits := []string{"ring", "poll"}[v.c.Op-9], v.by().Badge, bitsOf(v.word())
	l := []string{fmt.Sprintf("%s by %d steps", op, len(v.c.A.L)), fmt.Sprintf("%s by rights %d", op, v.by().Rights)}
	note := func(holds bool, what string) {
		if holds {
			l = append(l, op+" "+what)
		}
	}
	note(badge == 0, "without a badge")
	note(badge > 0 && badge < 64, "by a small badge")
	note(badge >= 64, "by a great badge")
	note(len(bits) == 0, "of none")
	note(len(bits) == 1, "of one bit")
	note(len(bits) > 1 && len(bits) < 64, "of some bits")
	note(len(bits) == 64, "of all bits")
	note(len(bits) < 64 && slices.Contains(bits, bitTold(badge)), "of its own bit")
	note(len(bits) > 0 && !slices.Contains(bits, bitTold(badge)), "of other bits")
	return l
}

// Any calls on any states, of which some are twisted; what goes well is gone on from.
func TestAnyStatesAndCalls(t *testing.T) {
	d, n := dice(88172645463325252), nothingSeen()
	ask := func(s state.State, thread int, c call.Call) (state.State, state.Reply) {
		v := look(s, thread, c)
		n.count(broken(ofDo(), v), v)
		return check(t, s, thread, c)
	}
	for range 900 {
		s := grow(&d)
		for range 50 {
			thread := d.below(s.Geo.Threads)
			c := anyCall(&d, s, thread)
			if d.below(5) == 0 {
				twistCall(&d, &c)
			}
			if d.below(8) == 0 {
				thread = pick(&d, append(far(), s.Geo.Threads))
			}
			if next, r := ask(s, thread, c); r.Err == api.OK && d.below(2) == 0 {
				s = next
			}
		}
		bad := copyOf(s)
		twist(&d, &bad)
		for range 6 {
			thread := d.below(s.Geo.Threads+2) - 1
			c := anyCall(&d, s, max(0, min(thread, s.Geo.Threads-1)))
			if d.below(3) == 0 {
				twistCall(&d, &c)
			}
			ask(bad, thread, c)
		}
	}
	// by their places in ofDo
	n.enough(t, [][]int{{1, 2}, {2, 3, 4, 5, 6, 7, 8}, {}, {}, {}, {6, 7, 8}, {}, {8}, {}},
		"ring by 1 steps", "ring by 2 steps", "ring by 3 steps", "ring by rights 2", "ring by rights 3", "ring by rights 6", "ring by rights 7", "ring without a badge", "ring by a small badge", "ring by a great badge", "ring of none", "ring of one bit", "ring of some bits", "ring of all bits", "ring of its own bit", "ring of other bits",
		"poll by 1 steps", "poll by 2 steps", "poll by 3 steps", "poll by rights 1", "poll by rights 3", "poll by rights 5", "poll by rights 7", "poll without a badge", "poll by a small badge", "poll by a great badge", "poll of one bit", "poll of some bits", "poll of all bits", "poll of its own bit", "poll of other bits")
}

// anyOther gives what a call that makes, gives, takes away, sends or receives leaves.
func anyOther(d *dice, s state.State, thread int) state.State {
	a, b := anyWay(d, s, thread, pick(d, []func(x state.Slot) bool{isFull, ofKind(1), ofKind(1), ofKind(2), ofKind(3), ofKind(4)})), anyWay(d, s, thread, isEmpty)
	c := pick(d, []call.Call{{Op: 1, X: 1 + d.below(5), Y: 1 + d.below(4)}, {Op: 1, X: 4}, {Op: 1, X: 2, Y: 1 + d.below(3)}, {Op: 2, X: d.below(8) | d.below(8)}, {Op: 2, X: 7}, {Op: 3, X: 2, Y: anyBadge(d)}, {Op: 3, X: 7, Y: anyBadge(d)}, {Op: 4}, {Op: 5 + d.below(2)}, {Op: 7, W: 5}, {Op: 8}})
	c.A = way(a...)
	if c.Op < 5 || c.Op == 8 {
		c.B = way(b...)
	}
	if c.Op == 7 {
		c.B = way(anyWay(d, s, thread, ofKind(4))...)
	}
	answer := map[int]func(state.State, int, call.Call) (state.State, state.Reply){1: carve.Do, 2: give.Do, 3: give.Do, 4: give.Do, 5: take.Do, 6: take.Do, 7: mail.Do, 8: mail.Do}[c.Op]
	next, r := answer(s, thread, c)
	// what takes much away is not gone on from: else there is soon nothing left.
	if c.Op > 4 && c.Op < 7 && r.N > 6 {
		return s
	}
	return next
}

// withBells gives a first state in which some calls have made a node and bells, and minted of them.
func withBells(d *dice) state.State {
	s, _ := state.New(geo.Geo{Threads: 1 + d.below(4), Slots: 96, Things: 48}, 4096)
	for i := range 3 {
		s, _ = carve.Do(s, 0, call.Call{Op: 1, A: way(0), B: way(2 + i), X: []int{2, 4, 4}[i], Y: 4})
	}
	for i := range 4 {
		s, _ = give.Do(s, 0, call.Call{Op: 3, A: way(3), B: way(2, i), X: 3, Y: anyBadge(d)})
	}
	return s
}

// Long runs of all calls: a bell tells each bit that was rung since it was polled last, and those alone; and each call leaves a state that may be.
func TestAnyRuns(t *testing.T) {
	d, polls, several := dice(1181783497276652981), 0, 0
	for range 150 {
		s := withBells(&d)
		rang := map[int][]int{} // the bits of each bell
		for range 200 {
			thread := d.below(s.Geo.Threads)
			if d.below(3) == 0 {
				s = anyOther(&d, s, thread)
				for number := range rang {
					if s.Things[number].Type != 4 {
						delete(rang, number)
					}
				}
				continue
			}
			c := anyCall(&d, s, thread)
			if d.below(2) == 0 {
				c.Op = 9
			}
			by := look(s, thread, c).by()
			next, r := check(t, s, thread, c)
			s = next
			switch {
			case r.Err != api.OK:
			case c.Op == 9:
				rang[by.Thing] = append(rang[by.Thing], bitTold(by.Badge))
			case r != state.Reply{W: wordOf(rang[by.Thing])}:
				t.Errorf("P19.1: poll of bell %d: %+v, but rung were the bits %d", by.Thing, r, rang[by.Thing])
			default:
				delete(rang, by.Thing)
				polls++
				if len(bitsOf(r.W)) > 1 {
					several++
				}
			}
		}
	}
	if polls < 1000 || several < 200 {
		t.Errorf("just %d polls went well in all runs, %d of them of several bits", polls, several)
	}
}

// The same is answered however often it is asked, and whatever was asked between.
func TestNothingIsKept(t *testing.T) {
	d := dice(3202034522624059733)
	for range 60 {
		a, b := grow(&d), grow(&d)
		for range 20 {
			c := anyCall(&d, a, 0)
			told := func() string {
				next, r := bell.Do(a, 0, c)
				return fmt.Sprint(next, r)
			}
			one := told()
			for range 3 {
				bell.Do(b, 0, anyCall(&d, b, 0))
			}
			if again := told(); again != one {
				t.Errorf("R5: Do(0, %s): %s, then %s", short(c), one, again)
			}
		}
	}
}
