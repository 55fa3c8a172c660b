package find_test

import (
	"fmt"
	"testing"

	"reeve/cap"
	"reeve/find"
	"reeve/geo"
	"reeve/state"
	"reeve/thing"
)

// dice tells numbers that seem to be any, but are the same in each run.
type dice uint64

func (d *dice) below(n int) int {
	*d ^= *d << 13
	*d ^= *d >> 7
	*d ^= *d << 17
	return int(uint64(*d) >> 11 % uint64(n))
}

func pick[T any](d *dice, l []T) T { return l[d.below(len(l))] }

func anyGeo(d *dice) geo.Geo {
	threads := 1 + d.below(4)
	return geo.Geo{Threads: threads, Slots: 8 * (threads + d.below(13-threads)), Things: threads + 2 + d.below(47-threads)}
}

// emptySlots gives the slots that a node has and nothing is in.
func emptySlots(s state.State) []int {
	var l []int
	for _, x := range s.Things {
		for i := range []int{0, 2, 4, 8, 16}[x.Bits] {
			if s.Slots[x.Base+i] == bare() {
				l = append(l, x.Base+i)
			}
		}
	}
	return l
}

// addThing puts a new thing, mostly a node, and its capability in a slot.
func addThing(d *dice, s *state.State, slot int) {
	t := state.Free(*s)
	if t < 0 {
		return
	}
	kind, bits := 2, 1+d.below(4)
	if d.below(4) == 0 {
		kind = 3 + d.below(3)
	}
	base, ok := state.Gap(*s, bits)
	if kind == 2 && !ok {
		return
	}
	s.Things[t], _ = thing.New(kind, bits, base)
	s.Slots[slot] = state.Slot{Cap: cap.Cap{Type: kind, Thing: t, Rights: d.below(8) | d.below(2)}, Up: -1}
}

// addCopy puts a capability of any thing in a slot, maybe as come of what is in another.
func addCopy(d *dice, s *state.State, slot int) {
	t := d.below(len(s.Things))
	x := state.Slot{Cap: cap.Cap{Type: s.Things[t].Type, Thing: t, Rights: d.below(8) | d.below(2)}, Up: -1}
	if l := state.Holders(*s, t); len(l) > 0 && d.below(2) == 0 {
		x.Up = pick(d, l)
		x.Cap = cap.Cut(s.Slots[x.Up].Cap, d.below(8)|1)
	}
	s.Slots[slot] = x
}

// grow makes a state that may be, in which much is there: each change stays only if it leaves the state Good.
func grow(d *dice) state.State {
	s, _ := state.New(anyGeo(d), 64)
	for range 20 + d.below(180) {
		x, l := copyOf(s), emptySlots(s)
		if len(l) == 0 {
			break
		}
		if d.below(2) == 0 {
			addThing(d, &x, pick(d, l))
		} else {
			addCopy(d, &x, pick(d, l))
		}
		if state.Good(x) {
			s = x
		}
	}
	return s
}

// someWays gives those ways that lead somewhere, those of one step less or more, and some others.
func someWays(d *dice, v told) [][]int {
	var l [][]int
	for _, w := range goodWays() {
		_, ok := v.lead[fmt.Sprint(w)]
		_, begun := v.lead[fmt.Sprint(w[:len(w)-1])]
		if ok || len(w) == 1 || begun && d.below(8) == 0 || d.below(32) == 0 {
			l = append(l, w)
		}
	}
	return l
}

// The states that are grown must have what the tests are for: else they would not tell the one from the other.
func TestAnyStates(t *testing.T) {
	d := dice(88172645463325252)
	shut, several, deep, away := 0, 0, 0, 0
	for range 80 {
		s := grow(&d)
		before := copyOf(s)
		for thread := range s.Geo.Threads {
			v := tellAll(s, thread)
			checkWays(t, s, thread, someWays(&d, v))
			checkLists(t, s, thread, append(places(len(s.Slots)), far()...))
			for slot, l := range v.ways {
				c := s.Slots[slot].Cap
				if c.Type == 2 && c.Rights%2 == 0 {
					shut++
				}
				if len(l) > 1 && len(l[0]) != len(l[len(l)-1]) {
					several++
				}
				if len(l[0]) == 3 && c.Type == 2 && c.Rights%2 == 1 {
					deep++
				}
				if slot < 8*s.Geo.Threads && slot/8 != thread {
					away++
				}
			}
		}
		for _, thread := range []int{-1, s.Geo.Threads, pick(&d, far())} {
			checkWays(t, s, thread, [][]int{{0}, {d.below(16)}, {d.below(16), d.below(16)}, {}})
			checkLists(t, s, thread, []int{d.below(len(s.Slots)), -1, 0})
		}
		if !state.Same(s, before) {
			t.Errorf("R4: a call changed the state that it was handed: %s, was %s", tell(s), tell(before))
		}
	}
	if shut < 200 || several < 200 || deep < 200 || away < 200 {
		t.Errorf("of any states' slots only %d have a Node without Read, %d several ways, %d a Node too deep, %d are another's", shut, several, deep, away)
	}
}

// twist changes a state in one place.
func twist(d *dice, s *state.State) {
	n := d.below(20) - 2
	if d.below(4) == 0 {
		n = pick(d, far())
	}
	x, y := &s.Slots[d.below(len(s.Slots))], &s.Things[d.below(len(s.Things))]
	pick(d, []func(){
		func() { x.Cap.Type = n }, func() { x.Cap.Thing = n }, func() { x.Cap.Rights = n }, func() { x.Cap.Badge = n }, func() { x.Up = n },
		func() { y.Type = n }, func() { y.Bits = n }, func() { y.Base = n }, func() { y.Size = n }, func() { y.Used = n }, func() { y.From = n }, func() { y.Badge = n }, func() { y.Full = !y.Full }, func() { y.Word = uint64(n) }, func() { y.Data[d.below(4)] = uint64(n) },
		func() { s.Geo.Threads = n }, func() { s.Geo.Slots = n }, func() { s.Geo.Things = n },
		func() { s.Slots = s.Slots[:d.below(len(s.Slots))] }, func() { s.Things = s.Things[:d.below(len(s.Things))] },
	})()
}

func TestAnyStatesTwisted(t *testing.T) {
	d := dice(1442695040888963407)
	good, bad := 0, 0
	for range 60 {
		s := grow(&d)
		for range 40 {
			x := copyOf(s)
			twist(&d, &x)
			if !state.Good(x) {
				checkNothing(t, x)
				bad++
				continue
			}
			good++
			thread := d.below(x.Geo.Threads)
			checkWays(t, x, thread, [][]int{{d.below(16)}, {d.below(8), d.below(16)}, {d.below(8), d.below(16), d.below(16)}})
			checkLists(t, x, thread, []int{-1, 0, d.below(len(x.Slots)), d.below(len(x.Slots))})
		}
	}
	if good < 100 || bad < 600 {
		t.Errorf("of the twisted states %d are Good, %d are not", good, bad)
	}
}

// The same is answered however often it is asked, and whatever was asked between.
func TestNothingIsKept(t *testing.T) {
	d := dice(2862933555777941757)
	a, b := grow(&d), grow(&d)
	for slot := range 96 {
		one := fmt.Sprint(find.Ways(a, 0, slot), find.Reach(a, 0))
		find.Ways(b, 0, slot)
		find.Reach(b, 0)
		if again := fmt.Sprint(find.Ways(a, 0, slot), find.Reach(a, 0)); again != one {
			t.Errorf("R5: Ways, Reach of slot %d: %s, then %s", slot, one, again)
		}
	}
}
