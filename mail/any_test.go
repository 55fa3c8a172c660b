package mail_test

import (
	"fmt"
	"slices"
	"testing"

	"reeve/api"
	"reeve/call"
	"reeve/carve"
	"reeve/geo"
	"reeve/give"
	"reeve/mail"
	"reeve/state"
	"reeve/take"
	"reeve/thing"
)

// dice tells numbers that seem to be any, but are the same in each run.
type dice uint64

func (d *dice) below(n int) int {
	*d ^= *d << 13
	*d ^= *d >> 7
	*d ^= *d << 17
	return int(uint64(*d) >> 11 % uint64(n))
}

func pick[T any](d *dice, l []T) T { return l[d.below(len(l))] }

func anyGeo(d *dice) geo.Geo {
	threads := 1 + d.below(4)
	return geo.Geo{Threads: threads, Slots: 8 * (threads + d.below(13-threads)), Things: threads + 2 + d.below(47-threads)}
}

// ofKind tells of slots whether they have a capability of that kind.
func ofKind(kind int) func(x state.Slot) bool {
	return func(x state.Slot) bool { return x.Cap.Type == kind }
}

// ofBox tells of slots whether they have a box's capability, of one that is full, or of one that is empty.
func ofBox(s state.State, full bool) func(x state.Slot) bool {
	return func(x state.Slot) bool { return x.Cap.Type == 3 && s.Things[x.Cap.Thing].Full == full }
}

// slotsWith gives the slots of nodes that are as is asked.
func slotsWith(s state.State, asked func(x state.Slot) bool) []int {
	var l []int
	for _, x := range s.Things {
		for _, i := range slotsOf(x) {
			if asked(s.Slots[i]) {
				l = append(l, i)
			}
		}
	}
	return l
}

// anyBox makes an empty box, or one that hands on what is in some slot, nodes' and rooms' more often, or nothing.
func anyBox(d *dice, s state.State) thing.Thing {
	if d.below(3) == 0 {
		return thing.Thing{Type: 3}
	}
	from := pick(d, append(slotsWith(s, pick(d, []func(x state.Slot) bool{isFull, isFull, ofKind(2), ofKind(2), ofKind(1)})), -1))
	return thing.Thing{Type: 3, Full: true, Word: uint64(d.below(1 << 40)), Badge: pick(d, []int{0, d.below(65536), 65535}), From: from + 1}
}

// anyThing makes a thing of any kind, nodes and boxes more often: not each may stand in this state.
func anyThing(d *dice, s state.State) thing.Thing {
	switch d.below(10) {
	case 0:
		return thing.Thing{Type: 1, Size: 1 + d.below(4096)}
	case 1, 2, 3:
		bits := 1 + d.below(4)
		return thing.Thing{Type: 2, Bits: bits, Base: d.below(max(1, len(s.Slots)-1<<bits+1))}
	case 4, 5, 6, 7:
		return anyBox(d, s)
	case 8:
		return thing.Thing{Type: 4, Word: uint64(d.below(9))}
	}
	return thing.Thing{Type: 5, Data: [4]uint64{3: uint64(d.below(9))}}
}

// addThing puts any thing, and its capability, made of a room or come of nothing.
func addThing(d *dice, s *state.State, to int) {
	n := slices.Index(s.Things, thing.Thing{})
	if n < 0 {
		return
	}
	x, up := anyThing(d, *s), pick(d, append(slotsWith(*s, ofKind(1)), -1))
	s.Things[n] = x
	s.Slots[to] = slot(x.Type, n, d.below(8)|pick(d, []int{0, 1, 7}), 0, up)
}

// addRoot puts a capability of a thread's root, which no call makes.
func addRoot(d *dice, s *state.State, to int) {
	s.Slots[to] = slot(2, 2+d.below(s.Geo.Threads), d.below(8), 0, -1)
}

// addCopy puts a capability with fewer rights, maybe with a badge, that came of another one, or of nothing.
func addCopy(d *dice, s *state.State, to int) {
	l := slotsWith(*s, isFull)
	if len(l) == 0 {
		return
	}
	from := pick(d, l)
	c := s.Slots[from].Cap
	c.Rights &= d.below(8) | d.below(8) | d.below(8)
	if (c.Type == 3 || c.Type == 4) && c.Badge == 0 && d.below(3) == 0 {
		c.Badge = pick(d, []int{1, 1 + d.below(65535), 65535})
	}
	s.Slots[to] = state.Slot{Cap: c, Up: pick(d, []int{from, from, from, -1})}
}

// fillBox makes some box one that is empty, or that hands on what is in some slot, or nothing.
func fillBox(d *dice, s *state.State) {
	if n := d.below(len(s.Things)); s.Things[n].Type == 3 {
		s.Things[n] = anyBox(d, *s)
	}
}

// turnRight changes one right of what is in a slot.
func turnRight(d *dice, s *state.State) {
	if l := slotsWith(*s, isFull); len(l) > 0 {
		s.Slots[pick(d, l)].Cap.Rights ^= pick(d, []int{1, 2, 4})
	}
}

// grow makes a state that may be, in which much is there: each change stays only if it leaves the state Good.
func grow(d *dice) state.State {
	s, _ := state.New(anyGeo(d), 64)
	for range 4 + d.below(pick(d, []int{20, 100})) {
		x, l := copyOf(s), slotsWith(s, isEmpty)
		switch {
		case d.below(4) == 0:
			fillBox(d, &x)
		case d.below(9) == 0 || len(l) == 0:
			turnRight(d, &x)
		case d.below(20) == 0:
			addRoot(d, &x, pick(d, l))
		case d.below(2) == 0:
			addCopy(d, &x, pick(d, l))
		default:
			addThing(d, &x, pick(d, l))
		}
		if state.Good(x) {
			s = x
		}
	}
	return s
}

// waysTo gives a thread's ways that lead to slots that are as is asked.
func waysTo(s state.State, thread int, asked func(x state.Slot) bool) [][]int {
	var l [][]int
	goOn := [][]int{nil}
	for range 3 {
		var next [][]int
		for _, begun := range goOn {
			for step := range 16 {
				w := slices.Concat(begun, []int{step})
				at := leadTold(s, thread, w)
				if at >= 0 && asked(s.Slots[at]) {
					l = append(l, w)
				}
				if at >= 0 && s.Slots[at].Cap.Type == 2 {
					next = append(next, w)
				}
			}
		}
		goOn = next
	}
	return l
}

// anyWay gives a way to a slot that is as is asked, mostly: else any way.
func anyWay(d *dice, s state.State, thread int, asked func(x state.Slot) bool) []int {
	l := waysTo(s, thread, asked)
	if len(l) > 0 && d.below(8) > 0 {
		return pick(d, l)
	}
	return []int{d.below(16), d.below(16), d.below(16)}[:1+d.below(3)]
}

// anyCall gives one to send or receive, which mostly has a chance to go well.
func anyCall(d *dice, s state.State, thread int) call.Call {
	full := d.below(4) > 0
	if d.below(2) == 0 {
		full = !full
		a := anyWay(d, s, thread, pick(d, []func(x state.Slot) bool{ofBox(s, full), ofBox(s, full), ofBox(s, full), ofKind(3), isFull, isEmpty}))
		b := anyWay(d, s, thread, pick(d, []func(x state.Slot) bool{isFull, isFull, ofKind(2), ofKind(4), ofKind(5), ofKind(1), isEmpty}))
		return toSend(a, pick(d, [][]int{nil, a, b, b, b, b}), uint64(d.below(1<<40)))
	}
	a := anyWay(d, s, thread, pick(d, []func(x state.Slot) bool{ofBox(s, full), ofBox(s, full), ofBox(s, full), ofKind(3), isFull, isEmpty}))
	b := anyWay(d, s, thread, pick(d, []func(x state.Slot) bool{isEmpty, isEmpty, isEmpty, isFull}))
	return toRecv(a, pick(d, [][]int{nil, b, b, b}))
}

// twistCall changes a call in one place.
func twistCall(d *dice, c *call.Call) {
	n := pick(d, append(far(), -1, 0, 1, 7, 8, 16, 65535, 65536))
	pick(d, []func(){
		func() { c.Op = n }, func() { c.Op = 1 + d.below(13) }, func() { c.X = n }, func() { c.X = n }, func() { c.Y = n }, func() { c.Y = n }, func() { c.W = uint64(n) }, func() { c.A = way() }, func() { c.B = way() },
		func() { c.A.L = []int{n} }, func() { c.B.L = []int{n} }, func() { c.A.L = append(c.A.L, 0, 0) }, func() { c.B.L = append(c.B.L, 0, 0, 0) },
	})()
}

// twist changes a state in one place: mostly it is not Good then.
func twist(d *dice, s *state.State) {
	n := d.below(20) - 2
	if d.below(4) == 0 {
		n = pick(d, far())
	}
	x, y := &s.Slots[d.below(len(s.Slots))], &s.Things[d.below(len(s.Things))]
	pick(d, []func(){
		func() { x.Cap.Type = n }, func() { x.Cap.Thing = n }, func() { x.Cap.Rights = n }, func() { x.Cap.Badge = n }, func() { x.Up = n },
		func() { y.Type = n }, func() { y.Bits = n }, func() { y.Base = n }, func() { y.Size = n }, func() { y.From = n }, func() { y.Badge = n }, func() { y.Full = !y.Full },
		func() { s.Geo.Threads = n }, func() { s.Geo.Slots = n }, func() { s.Geo.Things = n },
		func() { s.Slots = s.Slots[:d.below(len(s.Slots))] }, func() { s.Things = s.Things[:d.below(len(s.Things))] },
	})()
}

// seen counts of which refusals each held alone, and of which the first held with which other ones; and what it was that went well.
type seen struct {
	alone map[int]int
	both  map[[2]int]int
	well  map[string]int
}

func nothingSeen() seen {
	return seen{alone: map[int]int{}, both: map[[2]int]int{}, well: map[string]int{}}
}

// count takes the refusals that held, or what it was that went well.
func (n *seen) count(held []int, v view) {
	if len(held) == 0 {
		for _, x := range wellOf(v) {
			n.well[x]++
		}
		return
	}
	if len(held) == 1 {
		n.alone[held[0]]++
	}
	for _, other := range held[1:] {
		n.both[[2]int{held[0], other}]++
	}
}

// enough holds what was seen: each refusal must have held alone, and with each other one behind it with which it can, and what goes well must have gone so, else the test would not tell them apart.
func (n *seen) enough(t *testing.T, together [][]int, well ...string) {
	t.Helper()
	for i, l := range together {
		if n.alone[i] < 20 {
			t.Errorf("refusal %d held alone %d times", i, n.alone[i])
		}
		for _, other := range l {
			if n.both[[2]int{i, other}] < 5 {
				t.Errorf("refusals %d and %d held at once %d times", i, other, n.both[[2]int{i, other}])
			}
		}
	}
	for _, x := range well {
		if n.well[x] < 25 {
			t.Errorf("%s went well %d times", x, n.well[x])
		}
	}
}

// wellOf tells what a call that goes well is.
func wellOf(v view) []string {
	var l []string
	note := func(holds bool, what string) {
		if holds {
			l = append(l, []string{"send", "recv"}[v.c.Op-7]+" "+what)
		}
	}
	hasB, had := len(v.c.B.L) > 0, v.box()
	note(v.at(v.a).Badge == 0, "by what has no badge")
	note(v.at(v.a).Badge != 0, "by what has a badge")
	if v.c.Op == 7 {
		note(!hasB, "a word alone")
		note(hasB && v.a == v.b, "its own slot")
		note(hasB && v.at(v.b).Rights == 0, "what has no rights")
		note(hasB && v.at(v.b).Badge != 0, "what has a badge")
		note(hasB, fmt.Sprintf("kind %d", v.at(v.b).Type))
		return l
	}
	note(had.From == 0 && !hasB, "a word alone")
	note(had.From == 0 && hasB && v.b < 0, "a word alone, to nowhere")
	note(had.From == 0 && hasB && v.b >= 0 && v.none(v.b), "a word alone, to an empty slot")
	note(had.From == 0 && hasB && !v.none(v.b), "a word alone, to what is taken")
	note(had.From > 0 && !hasB, "what is lost")
	note(had.From > 0 && hasB && v.handed().Rights == 0, "what has no rights")
	note(had.From > 0 && hasB && v.handed().Badge != 0, "what has a badge")
	note(had.From > 0 && hasB && v.s.Slots[had.From-1].Up >= 0, "what came of something")
	note(had.From > 0 && hasB, fmt.Sprintf("kind %d", v.handed().Type))
	return l
}

// Any calls on any states, of which some are twisted; what goes well is gone on from, so that much came of what was handed on.
func TestAnyStatesAndCalls(t *testing.T) {
	d, n := dice(88172645463325252), nothingSeen()
	ask := func(s state.State, thread int, c call.Call) (state.State, state.Reply) {
		v := look(s, thread, c)
		n.count(broken(ofDo(), v), v)
		return check(t, s, thread, c)
	}
	for range 1800 {
		s := grow(&d)
		for range 60 {
			thread := d.below(s.Geo.Threads)
			c := anyCall(&d, s, thread)
			if d.below(5) == 0 {
				twistCall(&d, &c)
			}
			if d.below(8) == 0 {
				thread = pick(&d, append(far(), s.Geo.Threads))
			}
			if next, r := ask(s, thread, c); r.Err == api.OK && d.below(2) == 0 {
				s = next
			}
		}
		bad := copyOf(s)
		twist(&d, &bad)
		for range 6 {
			thread := d.below(s.Geo.Threads+2) - 1
			c := anyCall(&d, s, max(0, min(thread, s.Geo.Threads-1)))
			if d.below(3) == 0 {
				twistCall(&d, &c)
			}
			ask(bad, thread, c)
		}
	}
	// by their places in ofDo
	n.enough(t, [][]int{{1, 2}, {2, 3, 4, 5, 6, 7, 8, 9, 10, 11, 12, 13, 14, 15, 16, 17}, {}, {8, 9, 10}, {8, 9, 10}, {6, 7, 8, 9, 10, 12}, {7, 8, 9, 10, 11}, {8, 9, 10, 11}, {11}, {11}, {11}, {}, {13, 14, 15, 16, 17}, {}, {16}, {16, 17}, {}, {}},
		"send a word alone", "send its own slot", "send kind 2", "send kind 3", "send kind 4", "send kind 5", "send by what has no badge", "send by what has a badge", "send what has no rights", "send what has a badge",
		"recv a word alone", "recv a word alone, to nowhere", "recv a word alone, to an empty slot", "recv a word alone, to what is taken", "recv what is lost", "recv kind 2", "recv kind 3", "recv kind 4", "recv kind 5", "recv by what has no badge", "recv by what has a badge", "recv what has no rights", "recv what has a badge", "recv what came of something")
}

// anyOther gives what a call that makes, copies, moves or takes away leaves.
func anyOther(d *dice, s state.State, thread int) state.State {
	a, b := anyWay(d, s, thread, pick(d, []func(x state.Slot) bool{isFull, ofKind(1), ofKind(2)})), anyWay(d, s, thread, isEmpty)
	c := pick(d, []call.Call{{Op: 1, X: 1 + d.below(5), Y: 1 + d.below(4)}, {Op: 1, X: 2, Y: 1 + d.below(3)}, {Op: 1, X: 3}, {Op: 2, X: d.below(8) | d.below(8)}, {Op: 2, X: 7}, {Op: 3, X: d.below(8), Y: 1 + d.below(9)}, {Op: 4}, {Op: 5 + d.below(2)}})
	c.A = way(a...)
	if c.Op < 5 {
		c.B = way(b...)
	}
	answer := map[int]func(state.State, int, call.Call) (state.State, state.Reply){1: carve.Do, 2: give.Do, 3: give.Do, 4: give.Do, 5: take.Do, 6: take.Do}[c.Op]
	next, r := answer(s, thread, c)
	// what takes much away is not gone on from: else there is soon nothing left.
	if c.Op > 4 && r.N > 6 {
		return s
	}
	return next
}

// Long runs of all calls: a box tells what was put in it last, with the badge of the one who put it there, and is empty then; and each leaves a state that may be.
func TestAnyRuns(t *testing.T) {
	d, words, handed := dice(1181783497276652981), 0, 0
	for range 100 {
		s, _ := state.New(geo.Geo{Threads: 1 + d.below(4), Slots: 96, Things: 48}, 4096)
		in := map[int]state.Reply{} // what is in each box
		for range 200 {
			thread := d.below(s.Geo.Threads)
			if d.below(2) > 0 {
				s = anyOther(&d, s, thread)
				for box := range in {
					if s.Things[box].Type != 3 || !s.Things[box].Full {
						delete(in, box)
					}
				}
				continue
			}
			c := anyCall(&d, s, thread)
			v := look(s, thread, c)
			next, r := check(t, s, thread, c)
			s = next
			box := v.at(v.a).Thing
			switch {
			case r.Err != api.OK:
			case c.Op == 7:
				in[box] = state.Reply{W: c.W, N: v.at(v.a).Badge}
			case in[box] != r:
				t.Errorf("P18.1: recv of box %d: %+v, but in it was %+v", box, r, in[box])
			default:
				delete(in, box)
				words++
				if v.handed() != v.at(-1) {
					handed++
				}
			}
		}
	}
	if words < 500 || handed < 100 {
		t.Errorf("just %d words were received in all runs, and %d ways", words, handed)
	}
}

// The same is answered however often it is asked, and whatever was asked between.
func TestNothingIsKept(t *testing.T) {
	d := dice(3202034522624059733)
	for range 60 {
		a, b := grow(&d), grow(&d)
		for range 20 {
			c := anyCall(&d, a, 0)
			told := func() string {
				next, r := mail.Do(a, 0, c)
				return fmt.Sprint(next, r)
			}
			one := told()
			for range 3 {
				mail.Do(b, 0, anyCall(&d, b, 0))
			}
			if again := told(); again != one {
				t.Errorf("R5: Do(0, %s): %s, then %s", short(c), one, again)
			}
		}
	}
}
