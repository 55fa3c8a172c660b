package carve_test

import (
	"fmt"
	"slices"
	"testing"

	"reeve/api"
	"reeve/call"
	"reeve/cap"
	"reeve/carve"
	"reeve/geo"
	"reeve/state"
	"reeve/thing"
)

// dice tells numbers that seem to be any, but are the same in each run.
type dice uint64

func (d *dice) below(n int) int {
	*d ^= *d << 13
	*d ^= *d >> 7
	*d ^= *d << 17
	return int(uint64(*d) >> 11 % uint64(n))
}

func pick[T any](d *dice, l []T) T { return l[d.below(len(l))] }

// anyGeo gives one that may be: with few slots or things more often, so that none are left.
func anyGeo(d *dice) geo.Geo {
	threads := 1 + d.below(4)
	slots, things := 8*(threads+d.below(13-threads)), threads+2+d.below(47-threads)
	if d.below(3) == 0 {
		slots = 8 * (threads + d.below(min(3, 13-threads)))
	}
	if d.below(3) == 0 {
		things = threads + 2 + d.below(8)
	}
	return geo.Geo{Threads: threads, Slots: slots, Things: things}
}

// slotsWith gives the slots of nodes that are as is asked.
func slotsWith(s state.State, asked func(x state.Slot) bool) []int {
	var l []int
	for i, has := range owned(s) {
		if has && asked(s.Slots[i]) {
			l = append(l, i)
		}
	}
	return l
}

func isEmpty(x state.Slot) bool { return x.Cap == cap.Cap{} }

func isFull(x state.Slot) bool { return x.Cap != cap.Cap{} }

func isRoom(x state.Slot) bool { return x.Cap.Type == 1 }

// anyThing makes a thing of any kind: not each may stand in this state.
func anyThing(d *dice, s state.State) thing.Thing {
	switch d.below(8) {
	case 0, 1, 2:
		size := pick(d, []int{1 + d.below(8), 1 + d.below(64), 1 + d.below(4096)})
		return thing.Thing{Type: 1, Size: size, Used: pick(d, []int{0, d.below(size + 1), size})}
	case 3, 4:
		x := thing.Thing{Type: 2, Bits: 1 + d.below(4)}
		x.Base = d.below(max(1, len(s.Slots)-costTold(2, x.Bits)+1))
		if d.below(2) == 0 {
			x.Base = max(0, gapTold(s, x.Bits))
		}
		return x
	case 5:
		return thing.Thing{Type: 3, Full: true, Word: uint64(d.below(9)), From: d.below(len(s.Slots) + 1)}
	case 6:
		return thing.Thing{Type: 4, Word: uint64(d.below(9))}
	}
	return thing.Thing{Type: 5, Data: [4]uint64{3: uint64(d.below(9))}}
}

// addThing puts any thing, and its capability, made of a room or come of nothing.
func addThing(d *dice, s *state.State, to int) {
	n := slices.Index(s.Things, thing.Thing{})
	if n < 0 {
		return
	}
	x, up := anyThing(d, *s), pick(d, append(slotsWith(*s, isRoom), -1))
	s.Things[n] = x
	s.Slots[to] = slot(x.Type, n, d.below(8)|pick(d, []int{0, 2, 2, 7}), 0, up)
}

// addCopy puts a capability with fewer rights that came of another one, or of nothing.
func addCopy(d *dice, s *state.State, to int) {
	l := slotsWith(*s, isFull)
	if len(l) == 0 {
		return
	}
	from := pick(d, l)
	s.Slots[to] = state.Slot{Cap: s.Slots[from].Cap, Up: pick(d, []int{from, from, -1})}
	s.Slots[to].Cap.Rights &= d.below(8) | d.below(8)
}

// takeOut empties a slot, and takes away its thing, so that a number and maybe slots are left in between.
func takeOut(d *dice, s *state.State) {
	l := slotsWith(*s, isFull)
	if len(l) == 0 {
		return
	}
	i := pick(d, l)
	s.Things[s.Slots[i].Cap.Thing], s.Slots[i] = thing.Thing{}, bare()
	for j := range s.Slots {
		if s.Slots[j].Up == i {
			s.Slots[j].Up = -1
		}
	}
}

// grow makes a state that may be, in which much is there: each change stays only if it leaves the state Good.
func grow(d *dice) state.State {
	s, _ := state.New(anyGeo(d), pick(d, []int{1 + d.below(64), 1 + d.below(4096)}))
	for range 4 + d.below(pick(d, []int{20, 100})) {
		x, l := copyOf(s), slotsWith(s, isEmpty)
		switch {
		case d.below(4) == 0:
			takeOut(d, &x)
		case len(l) == 0:
			continue
		case d.below(3) == 0:
			addCopy(d, &x, pick(d, l))
		default:
			addThing(d, &x, pick(d, l))
		}
		if state.Good(x) {
			s = x
		}
	}
	return s
}

// waysTo gives a thread's ways that lead to slots that are as is asked.
func waysTo(s state.State, thread int, asked func(x state.Slot) bool) [][]int {
	var l [][]int
	goOn := [][]int{nil}
	for range 3 {
		var next [][]int
		for _, begun := range goOn {
			for step := range 16 {
				w := slices.Concat(begun, []int{step})
				at := leadTold(s, thread, w)
				if at >= 0 && asked(s.Slots[at]) {
					l = append(l, w)
				}
				if at >= 0 && s.Slots[at].Cap.Type == 2 {
					next = append(next, w)
				}
			}
		}
		goOn = next
	}
	return l
}

// anyWay gives a way to a slot that is as is asked, mostly: else any way.
func anyWay(d *dice, s state.State, thread int, asked func(x state.Slot) bool) []int {
	l := waysTo(s, thread, asked)
	if len(l) > 0 && d.below(6) > 0 {
		return pick(d, l)
	}
	return []int{d.below(16), d.below(16), d.below(16)}[:1+d.below(3)]
}

// anySize gives a size for a kind: of a room often what is just left of the one that it is made of, or one more or less.
func anySize(d *dice, s state.State, thread, kind int, a []int) int {
	if kind == 2 {
		return d.below(7)
	}
	at := leadTold(s, thread, a)
	if at >= 0 && s.Slots[at].Cap.Type == 1 && d.below(3) > 0 {
		left := s.Things[s.Slots[at].Cap.Thing].Size - usedTold(s, at)
		return min(4096, max(0, left+d.below(3)-1))
	}
	return pick(d, []int{0, 1 + d.below(9), d.below(4097)})
}

// anyThread gives a thread that has a room, mostly.
func anyThread(d *dice, s state.State) int {
	for range 4 {
		thread := d.below(s.Geo.Threads)
		if len(waysTo(s, thread, isRoom)) > 0 {
			return thread
		}
	}
	return d.below(s.Geo.Threads)
}

// anyCall gives one to make something, which mostly has a chance to go well.
func anyCall(d *dice, s state.State, thread int) call.Call {
	a := anyWay(d, s, thread, pick(d, []func(x state.Slot) bool{isRoom, isRoom, isRoom, isFull}))
	b := anyWay(d, s, thread, pick(d, []func(x state.Slot) bool{isEmpty, isEmpty, isEmpty, isFull}))
	kind := pick(d, []int{1, 1, 1, 2, 2, 2, 3, 4, 5})
	return toMake(a, b, kind, anySize(d, s, thread, kind, a))
}

// twistCall changes a call in one place.
func twistCall(d *dice, c *call.Call) {
	n := pick(d, append(far(), -1, 0, 1, 5, 6, 16, 4096, 4097))
	pick(d, []func(){
		func() { c.Op = n }, func() { c.Op = 1 + d.below(13) }, func() { c.X = n }, func() { c.Y = n }, func() { c.W = uint64(n) }, func() { c.A = way() }, func() { c.B = way() },
		func() { c.A.L[0] = n }, func() { c.B.L[0] = n }, func() { c.A.L = append(c.A.L, 0, 0) }, func() { c.B.L = append(c.B.L, 0, 0, 0) },
	})()
}

// seen counts of which refusals each held alone, and of which the first held with which other ones.
type seen struct {
	alone [13]int
	both  [13][13]int
	well  [6]int
}

func (n *seen) count(v view) {
	l := v.broken()
	if len(l) == 0 {
		n.well[v.c.X]++
		return
	}
	if len(l) == 1 {
		n.alone[l[0]]++
	}
	for _, other := range l[1:] {
		n.both[l[0]][other]++
	}
}

// together gives the pairs of refusals that can hold at once, by their places: the one named first, and others behind it.
func together() map[int][]int {
	return map[int][]int{
		0: {1, 2, 9}, 1: {2, 3, 4, 5, 6, 7, 8, 9, 10, 11, 12}, 2: {9, 11, 12},
		3: {7, 8, 9, 11, 12}, 4: {7, 8, 9, 11, 12}, 5: {6, 7, 8, 9, 11, 12}, 6: {7, 8, 9, 10, 11, 12},
		7: {9, 10, 11, 12}, 8: {9, 10, 11, 12}, 9: {11, 12}, 10: {11, 12}, 11: {12},
	}
}

// enough holds what was seen: each refusal must have held alone, and with each other one, and each kind must have been made, else the test would not tell them apart.
func (n *seen) enough(t *testing.T) {
	t.Helper()
	for i, x := range refusals() {
		if n.alone[i] < 20 {
			t.Errorf("the refusal %q held alone %d times", x.name, n.alone[i])
		}
		for _, other := range together()[i] {
			if n.both[i][other] < 5 {
				t.Errorf("the refusals %q and %q held at once %d times", x.name, refusals()[other].name, n.both[i][other])
			}
		}
	}
	for kind := 1; kind <= 5; kind++ {
		if n.well[kind] < 200 {
			t.Errorf("kind %d was made %d times", kind, n.well[kind])
		}
	}
}

// Any calls on any states, of which some are twisted; what goes well is gone on from, so that much is made of what was made.
func TestAnyStatesAndCalls(t *testing.T) {
	d, n := dice(88172645463325252), seen{}
	for range 800 {
		s := grow(&d)
		checkUsed(t, s)
		for range 40 {
			thread := anyThread(&d, s)
			c := anyCall(&d, s, thread)
			if d.below(8) == 0 {
				twistCall(&d, &c)
			}
			if d.below(8) == 0 {
				thread = pick(&d, append(far(), s.Geo.Threads))
			}
			n.count(look(s, thread, c))
			next, r := check(t, s, thread, c)
			if r.Err == api.OK && d.below(2) == 0 {
				s = next
				checkUsed(t, s)
			}
		}
		bad := copyOf(s)
		twist(&d, &bad)
		for range 6 {
			thread := d.below(s.Geo.Threads+2) - 1
			c := anyCall(&d, s, max(0, min(thread, s.Geo.Threads-1)))
			if d.below(3) == 0 {
				twistCall(&d, &c)
			}
			n.count(look(bad, thread, c))
			check(t, bad, thread, c)
		}
		checkUsed(t, bad)
	}
	n.enough(t)
}

// twist changes a state in one place: mostly it is not Good then.
func twist(d *dice, s *state.State) {
	n := d.below(20) - 2
	if d.below(4) == 0 {
		n = pick(d, far())
	}
	x, y := &s.Slots[d.below(len(s.Slots))], &s.Things[d.below(len(s.Things))]
	pick(d, []func(){
		func() { x.Cap.Type = n }, func() { x.Cap.Thing = n }, func() { x.Cap.Rights = n }, func() { x.Cap.Badge = n }, func() { x.Up = n },
		func() { y.Type = n }, func() { y.Bits = n }, func() { y.Base = n }, func() { y.Size = n }, func() { y.Used = n }, func() { y.From = n }, func() { y.Badge = n }, func() { y.Full = !y.Full }, func() { y.Word = uint64(n) },
		func() { s.Geo.Threads = n }, func() { s.Geo.Slots = n }, func() { s.Geo.Things = n },
		func() { s.Slots = s.Slots[:d.below(len(s.Slots))] }, func() { s.Things = s.Things[:d.below(len(s.Things))] },
	})()
}

// The same is answered however often it is asked, and whatever was asked between.
func TestNothingIsKept(t *testing.T) {
	d := dice(2862933555777941757)
	for range 40 {
		a, b := grow(&d), grow(&d)
		for range 10 {
			c := anyCall(&d, a, 0)
			next, r := carve.Do(a, 0, c)
			one := fmt.Sprint(next, r, carve.Used(a, 0))
			for range 3 {
				carve.Do(b, 0, anyCall(&d, b, 0))
				carve.Used(b, d.below(len(b.Slots)))
			}
			next, r = carve.Do(a, 0, c)
			if again := fmt.Sprint(next, r, carve.Used(a, 0)); again != one {
				t.Errorf("R5: Do(0, %s): %s, then %s", short(c), one, again)
			}
		}
	}
}
