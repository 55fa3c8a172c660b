package state_test

import (
	"slices"

	"reeve/cap"
	"reeve/geo"
	"reeve/state"
	"reeve/thing"
)

// This file is a second telling of the chapter: each clause by itself, and so that it answers of any state.

// clause is one of those that Good is made of.
type clause struct {
	name  string
	holds func(s state.State) bool
}

// clauses are Good's, in the chapter's order.
func clauses() []clause {
	return []clause{
		{"geo", geoMayBe},
		{"so many slots", func(s state.State) bool { return len(s.Slots) == s.Geo.Slots }},
		{"so many things", func(s state.State) bool { return len(s.Things) == s.Geo.Things }},
		{"caps", capsMayBe},
		{"things", thingsMayBe},
		{"caps' things", capsHaveThings},
		{"ups", upsMayBe},
		{"roots", rootsStand},
		{"in common", nothingInCommon},
		{"slots there", slotsStand},
		{"ring", noRing},
		{"homeless", noneHomeless},
		{"less", noneMore},
		{"held", noneLost},
		{"from", fromsStand},
	}
}

// broken gives the names of the clauses that do not hold: none of a state that may be.
func broken(s state.State) []string {
	var l []string
	for _, c := range clauses() {
		if !c.holds(s) {
			l = append(l, c.name)
		}
	}
	return l
}

func mayBe(s state.State) bool { return len(broken(s)) == 0 }

func geoMayBe(s state.State) bool {
	threads := []int{1, 2, 3, 4}
	slots := []int{8, 16, 24, 32, 40, 48, 56, 64, 72, 80, 88, 96}
	g := s.Geo
	return slices.Contains(threads, g.Threads) && slices.Contains(slots[g.Threads-1:], g.Slots) && g.Things < 49 && g.Things > g.Threads+1
}

func full(x state.Slot) bool { return x.Cap != cap.Cap{} }

// fullAt asks for a slot by its number, which may be any.
func fullAt(s state.State, i int) bool { return i >= 0 && i < len(s.Slots) && full(s.Slots[i]) }

// fullSlots gives the numbers of all slots that something is in.
func fullSlots(s state.State) []int {
	var l []int
	for i, x := range s.Slots {
		if full(x) {
			l = append(l, i)
		}
	}
	return l
}

func capsMayBe(s state.State) bool {
	for _, x := range s.Slots {
		c := x.Cap
		if full(x) && (c.Type < 1 || c.Type > 5 || c.Thing < 0 || c.Thing > 47 || c.Rights < 0 || c.Rights > 7 || c.Badge < 0 || c.Badge > 65535) {
			return false
		}
		if c.Badge != 0 && c.Type != 3 && c.Type != 4 {
			return false
		}
	}
	return true
}

func thingsMayBe(s state.State) bool {
	return !slices.ContainsFunc(s.Things, func(t thing.Thing) bool { return !thing.Good(t) })
}

// thingAt is a thing by its number: nothing of a number that is none.
func thingAt(s state.State, t int) thing.Thing {
	if t < 0 || t >= len(s.Things) {
		return thing.Thing{}
	}
	return s.Things[t]
}

func capsHaveThings(s state.State) bool {
	for _, i := range fullSlots(s) {
		c := s.Slots[i].Cap
		if kind := thingAt(s, c.Thing).Type; kind == 0 || kind != c.Type {
			return false
		}
	}
	return true
}

// upsMayBe takes away what came of nothing, and of what is taken away, until no more is: what is left then is in a ring, or behind one.
func upsMayBe(s state.State) bool {
	left := map[int]int{}
	for i, x := range s.Slots {
		if !full(x) && x.Up != -1 || full(x) && x.Up != -1 && !fullAt(s, x.Up) {
			return false
		}
		if full(x) {
			left[i] = x.Up
		}
	}
	for again := true; again; {
		again = false
		for _, i := range fullSlots(s) {
			up, here := left[i]
			if _, upHere := left[up]; here && !upHere {
				delete(left, i)
				again = true
			}
		}
	}
	return len(left) == 0
}

func rootsStand(s state.State) bool {
	for thread := range min(s.Geo.Threads, 4) {
		if thingAt(s, 2+thread) != (thing.Thing{Type: 2, Bits: 3, Base: 8 * thread}) {
			return false
		}
	}
	return true
}

// slotsOf gives a node's slots, whether they are there or not; of what is no node, or may not be: none.
func slotsOf(t thing.Thing) []int {
	if t.Type != 2 || t.Bits < 1 || t.Bits > 4 {
		return nil
	}
	l := make([]int, [5]int{1: 2, 2: 4, 3: 8, 4: 16}[t.Bits])
	for i := range l {
		l[i] = t.Base + i
	}
	return l
}

func nothingInCommon(s state.State) bool {
	for t, x := range s.Things {
		for _, y := range s.Things[t+1:] {
			if slices.ContainsFunc(slotsOf(x), func(i int) bool { return slices.Contains(slotsOf(y), i) }) {
				return false
			}
		}
	}
	return true
}

func slotsStand(s state.State) bool {
	for _, t := range s.Things {
		if slices.ContainsFunc(slotsOf(t), func(i int) bool { return i < 0 || i >= len(s.Slots) }) {
			return false
		}
	}
	return true
}

// ownersTold gives the nodes that have a slot: one at most, of a state that may be.
func ownersTold(s state.State, slot int) []int {
	var l []int
	for t, x := range s.Things {
		if slices.Contains(slotsOf(x), slot) {
			l = append(l, t)
		}
	}
	return l
}

// nodesWithin gives the nodes that stand in the slots of one, straight.
func nodesWithin(s state.State, t int) []int {
	var l []int
	for _, i := range slotsOf(thingAt(s, t)) {
		if fullAt(s, i) && s.Slots[i].Cap.Type == 2 {
			l = append(l, s.Slots[i].Cap.Thing)
		}
	}
	return l
}

// noRing takes away nodes in which none is left, until no more is.
func noRing(s state.State) bool {
	left := map[int]bool{}
	for t, x := range s.Things {
		left[t] = x.Type == 2
	}
	for again := true; again; {
		again = false
		for t := range s.Things {
			if left[t] && !slices.ContainsFunc(nodesWithin(s, t), func(u int) bool { return left[u] }) {
				left[t] = false
				again = true
			}
		}
	}
	for _, here := range left {
		if here {
			return false
		}
	}
	return true
}

func noneHomeless(s state.State) bool {
	return !slices.ContainsFunc(fullSlots(s), func(i int) bool { return len(ownersTold(s, i)) == 0 })
}

func hasRight(rights, bit int) bool { return rights >= 0 && rights <= 7 && rights/bit%2 == 1 }

func allows(c cap.Cap, of cap.Cap) bool {
	for _, bit := range []int{1, 2, 4} {
		if hasRight(c.Rights, bit) && !hasRight(of.Rights, bit) {
			return false
		}
	}
	return c.Type == of.Type && c.Thing == of.Thing && (of.Badge == 0 || of.Badge == c.Badge)
}

func noneMore(s state.State) bool {
	for _, i := range fullSlots(s) {
		x := s.Slots[i]
		if !fullAt(s, x.Up) {
			continue
		}
		of := s.Slots[x.Up].Cap
		if !allows(x.Cap, of) && (of.Type != 1 || x.Cap.Thing == of.Thing) {
			return false
		}
	}
	return true
}

// holdersTold gives the slots that something of a thing is in.
func holdersTold(s state.State, t int) []int {
	return slices.DeleteFunc(fullSlots(s), func(i int) bool { return s.Slots[i].Cap.Thing != t })
}

func noneLost(s state.State) bool {
	for t, x := range s.Things {
		root := t > 1 && t < 2+s.Geo.Threads
		if x.Type != 0 && !root && len(holdersTold(s, t)) == 0 {
			return false
		}
	}
	return true
}

func fromsStand(s state.State) bool {
	for _, t := range s.Things {
		if t.Type == 3 && t.From != 0 && !fullAt(s, t.From-1) {
			return false
		}
	}
	return true
}

// view is a state, and what the calls that ask for a Good one tell of it.
type view struct {
	state.State
	good bool
}

func look(s state.State) view { return view{State: s, good: mayBe(s)} }

func (v view) owner(slot int) int {
	l := ownersTold(v.State, slot)
	if !v.good || len(l) == 0 {
		return -1
	}
	return l[0]
}

func (v view) free() int {
	if !v.good {
		return -1
	}
	return slices.Index(v.Things, thing.Thing{})
}

func (v view) holders(t int) []int {
	if !v.good {
		return nil
	}
	return holdersTold(v.State, t)
}

// gap tries each Base in turn.
func (v view) gap(bits int) (int, bool) {
	if bits < 1 || bits > 4 || !v.good {
		return 0, false
	}
	for base := range v.Slots {
		free := true
		for _, i := range slotsOf(thing.Thing{Type: 2, Bits: bits, Base: base}) {
			free = free && i < len(v.Slots) && len(ownersTold(v.State, i)) == 0
		}
		if free {
			return base, true
		}
	}
	return 0, false
}

// within gives the slots of a node and of all nodes within, gathered until there are no more: where that node may not stand.
func (v view) within(node int) []int {
	if !v.good || thingAt(v.State, node).Type != 2 {
		return nil
	}
	all, slots := []int{node}, []int{}
	for at := 0; at < len(all); at++ {
		slots = append(slots, slotsOf(v.Things[all[at]])...)
		for _, u := range nodesWithin(v.State, all[at]) {
			if !slices.Contains(all, u) {
				all = append(all, u)
			}
		}
	}
	return slots
}

func upsTold(s state.State) []int {
	var l []int
	for _, x := range s.Slots {
		if full(x) {
			l = append(l, x.Up)
		} else {
			l = append(l, -2)
		}
	}
	return l
}

// firstTold is the state that the chapter's New tells.
func firstTold(g geo.Geo, room int) state.State {
	s := state.State{Geo: g, Slots: make([]state.Slot, g.Slots), Things: make([]thing.Thing, g.Things)}
	for i := range s.Slots {
		s.Slots[i].Up = -1
	}
	s.Things[0] = thing.Thing{Type: 1, Size: room}
	s.Things[1].Type = 3
	s.Slots[0].Cap = cap.Cap{Type: 1, Thing: 0, Rights: 7}
	for thread := range g.Threads {
		s.Things[thread+2] = thing.Thing{Type: 2, Bits: 3, Base: thread * 8}
		s.Slots[thread*8+1] = state.Slot{Cap: cap.Cap{Type: 3, Thing: 1, Rights: 7}, Up: 1}
	}
	s.Slots[1].Up = -1
	return s
}

// sameTold holds two states against each other place by place.
func sameTold(a, b state.State) bool {
	if a.Geo != b.Geo || len(a.Slots) != len(b.Slots) || len(a.Things) != len(b.Things) {
		return false
	}
	for i := range a.Slots {
		if a.Slots[i] != b.Slots[i] {
			return false
		}
	}
	for t := range a.Things {
		if a.Things[t] != b.Things[t] {
			return false
		}
	}
	return true
}

// copyOf is another state, alike, by the tests' own means.
func copyOf(s state.State) state.State {
	return state.State{Geo: s.Geo, Slots: append([]state.Slot{}, s.Slots...), Things: append([]thing.Thing{}, s.Things...)}
}
