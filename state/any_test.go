package state_test

import (
	"fmt"
	"math"
	"slices"
	"testing"

	"reeve/api"
	"reeve/cap"
	"reeve/geo"
	"reeve/state"
	"reeve/thing"
)

// dice tells numbers that seem to be any, but are the same in each run.
type dice uint64

func (d *dice) below(n int) int {
	*d ^= *d << 13
	*d ^= *d >> 7
	*d ^= *d << 17
	return int(uint64(*d) >> 11 % uint64(n))
}

func pick[T any](d *dice, l []T) T { return l[d.below(len(l))] }

// far gives numbers that are no slot, no thing and no bits: some with small numbers in their low bits.
func far() []int {
	return []int{math.MinInt, math.MinInt + 1, math.MinInt + 4, -1 << 32, 4 - 1<<32, -1 << 31, -97, -96, -3, 97, 1 << 8, 1<<8 + 4, 1<<16 + 4, 1 << 31, 1 << 32, 1<<32 + 1, 1<<32 + 4, 1 << 62, math.MaxInt - 1, math.MaxInt}
}

// places gives all numbers from two below the first of n to two above the last.
func places(n int) []int {
	var l []int
	for i := -2; i < n+2; i++ {
		l = append(l, i)
	}
	return l
}

// tell is a state in a test's message: what is there.
func tell(s state.State) string {
	text := fmt.Sprint(s.Geo, " of ", len(s.Slots), " slots, ", len(s.Things), " things:")
	for _, i := range fullSlots(s) {
		text += fmt.Sprint(" ", i, s.Slots[i])
	}
	for t, x := range s.Things {
		if x != (thing.Thing{}) {
			text += fmt.Sprintf(" thing %d %+v", t, x)
		}
	}
	return text[:min(len(text), 3000)]
}

// check holds each call on a state against the second telling.
func check(t *testing.T, s state.State) {
	t.Helper()
	v, before := look(s), copyOf(s)
	if got := state.Good(s); got != v.good {
		t.Errorf("P12.1: Good: %v, but broken is %q, of %s", got, broken(s), tell(s))
	}
	if got := state.Forest(s); !slices.Equal(got.Up, upsTold(s)) {
		t.Errorf("P12.1: Forest: %d, want %d, of %s", got.Up, upsTold(s), tell(s))
	}
	if got := state.Free(s); got != v.free() {
		t.Errorf("P12.1: Free: %d, want %d, of %s", got, v.free(), tell(s))
	}
	for _, bits := range append(places(5), 63, 64, 65, 1<<32+1, math.MinInt, math.MaxInt) {
		want, fine := v.gap(bits)
		if base, ok := state.Gap(s, bits); base != want || ok != fine {
			t.Errorf("P12.1: Gap(%d): %d, %v, want %d, %v, of %s", bits, base, ok, want, fine, tell(s))
		}
	}
	if got := state.Clone(s); !state.Same(s, got) || !sameTold(s, got) {
		t.Errorf("P12.1: Clone: %s, of %s", tell(got), tell(s))
	}
	if !sameTold(s, before) {
		t.Errorf("R4: a call changed what it was handed: %s, was %s", tell(s), tell(before))
	}
}

// checkNumbers holds the calls that are asked for a slot, or a thing, against the second telling, for some numbers.
func checkNumbers(t *testing.T, s state.State, slots, things []int) {
	t.Helper()
	v, before := look(s), copyOf(s)
	for _, slot := range slots {
		if got := state.Owner(s, slot); got != v.owner(slot) {
			t.Errorf("P12.1: Owner(%d): %d, want %d, of %s", slot, got, v.owner(slot), tell(s))
		}
	}
	for _, x := range things {
		if got := state.Holders(s, x); !slices.Equal(got, v.holders(x)) {
			t.Errorf("P12.1: Holders(%d): %d, want %d, of %s", x, got, v.holders(x), tell(s))
		}
		within := v.within(x)
		for _, slot := range slots {
			if got := state.Inside(s, x, slot); got != slices.Contains(within, slot) {
				t.Errorf("P12.1: Inside(%d, %d): %v, of %s", x, slot, got, tell(s))
			}
		}
	}
	if !sameTold(s, before) {
		t.Errorf("R4: a call changed what it was handed: %s, was %s", tell(s), tell(before))
	}
}

// checkAll asks with all numbers of slots and things.
func checkAll(t *testing.T, s state.State) {
	t.Helper()
	check(t, s)
	checkNumbers(t, s, append(places(len(s.Slots)), far()...), append(places(len(s.Things)), far()...))
}

// emptySlots gives the slots that a node has and nothing is in.
func emptySlots(s state.State) []int {
	var l []int
	for i, x := range s.Slots {
		if !full(x) && len(ownersTold(s, i)) > 0 {
			l = append(l, i)
		}
	}
	return l
}

// anyThing makes a thing of any kind, with its fields as they may be; a node where it has room, or nothing.
func anyThing(d *dice, s state.State) thing.Thing {
	kind := 1 + d.below(5)
	switch kind {
	case 1:
		size := 1 + d.below(4096)
		return thing.Thing{Type: kind, Size: size, Used: d.below(size + 1)}
	case 2:
		x := thing.Thing{Type: kind, Bits: 1 + d.below(4)}
		x.Base = d.below(len(s.Slots))
		for _, i := range slotsOf(x) {
			if i >= len(s.Slots) || len(ownersTold(s, i)) > 0 {
				return thing.Thing{}
			}
		}
		return x
	case 3:
		return anyMail(d, s)
	case 4:
		return thing.Thing{Type: kind, Word: uint64(d.below(1 << 40))}
	}
	return thing.Thing{Type: kind, Data: [4]uint64{3: uint64(d.below(1 << 40))}}
}

// anyMail makes a box, maybe with a way in it.
func anyMail(d *dice, s state.State) thing.Thing {
	if d.below(3) == 0 {
		return thing.Thing{Type: 3}
	}
	x := thing.Thing{Type: 3, Full: true, Word: uint64(d.below(1 << 40)), Badge: d.below(65536)}
	if l := fullSlots(s); len(l) > 0 && d.below(2) == 0 {
		x.From = 1 + pick(d, l)
	}
	return x
}

// addThing puts a new thing, with its capability in an empty slot, made of some room's or come of nothing.
func addThing(d *dice, s *state.State) {
	t := slices.Index(s.Things, thing.Thing{})
	free := emptySlots(*s)
	if t < 0 || len(free) == 0 {
		return
	}
	x := anyThing(d, *s)
	if x.Type == 0 {
		return
	}
	up := pick(d, append(fullSlots(*s), -1))
	if up >= 0 && s.Slots[up].Cap.Type != 1 {
		up = slices.IndexFunc(s.Slots, func(x state.Slot) bool { return x.Cap.Type == 1 })
	}
	s.Things[t] = x
	s.Slots[pick(d, free)] = state.Slot{Cap: cap.Cap{Type: x.Type, Thing: t, Rights: d.below(8)}, Up: up}
}

// addCopy puts a capability that came of another one in an empty slot, but where a node would be inside itself.
func addCopy(d *dice, s *state.State) {
	free := emptySlots(*s)
	if len(free) == 0 || len(fullSlots(*s)) == 0 {
		return
	}
	from, to := pick(d, fullSlots(*s)), pick(d, free)
	x := state.Slot{Cap: s.Slots[from].Cap, Up: from}
	if d.below(8) == 0 {
		x.Cap = cap.Cap{Type: 2, Thing: 2 + d.below(s.Geo.Threads), Rights: 7}
		x.Up = -1
	}
	x.Cap.Rights &= d.below(8) | d.below(8)
	if x.Cap.Badge == 0 && (x.Cap.Type == 3 || x.Cap.Type == 4) && d.below(2) == 0 {
		x.Cap.Badge = d.below(65536)
	}
	if x.Cap.Type == 2 && slices.Contains(view{*s, true}.within(x.Cap.Thing), to) {
		return
	}
	s.Slots[to] = x
}

// anyGeo gives one that may be: small ones more often, for the tests' time.
func anyGeo(d *dice) geo.Geo {
	threads := 1 + d.below(4)
	slots := 8 * (threads + d.below(13-threads))
	if d.below(3) > 0 {
		slots = min(slots, 8*threads+24)
	}
	return geo.Geo{Threads: threads, Slots: slots, Things: threads + 2 + d.below(47-threads)}
}

// rootsAlone is a state in which nothing but the roots is there: so things 0 and 1 may become what they are not in the first one.
func rootsAlone(g geo.Geo) state.State {
	s := firstTold(g, 1)
	s.Things[0], s.Things[1] = thing.Thing{}, thing.Thing{}
	for i := range s.Slots {
		s.Slots[i] = state.Slot{Up: -1}
	}
	return s
}

// grow makes a state that may be, in which much is there.
func grow(d *dice, g geo.Geo) state.State {
	s := firstTold(g, 1+d.below(4096))
	if d.below(4) == 0 {
		s = rootsAlone(g)
	}
	for range 5 + d.below(60) {
		if d.below(3) == 0 {
			addCopy(d, &s)
		} else {
			addThing(d, &s)
		}
	}
	for range d.below(4) {
		s.Slots[d.below(len(s.Slots))].Up = -1
	}
	if s.Things[1].Type == 3 && d.below(2) == 0 {
		s.Things[1] = anyMail(d, s)
	}
	return s
}

func TestAnyStates(t *testing.T) {
	d := dice(88172645463325252)
	for round := range 60 {
		s := grow(&d, anyGeo(&d))
		if !mayBe(s) {
			t.Fatalf("the tests' state of round %d may not be: %q, of %s", round, broken(s), tell(s))
		}
		if !state.Good(s) {
			t.Errorf("P12.1: Good: false, of %s", tell(s))
		}
		checkAll(t, s)
		s.Slots[0].Up = 0
		checkAll(t, s)
	}
}

// anyNumber gives one that a field of a slot or a thing might have: mostly a small one, or a place.
func anyNumber(d *dice, s state.State) int {
	switch d.below(8) {
	case 0:
		return pick(d, far())
	case 1:
		return pick(d, places(len(s.Slots)))
	case 2:
		return pick(d, places(len(s.Things)))
	case 3:
		return pick(d, fulls(s))
	case 4:
		return pick(d, []int{api.MaxRoom, api.MaxRoom + 1, api.MaxBadge, api.MaxBadge + 1, api.MaxSlots, api.MaxSlots - 1})
	}
	return d.below(12) - 3
}

// fulls gives the full slots, or the first one: so there is always one.
func fulls(s state.State) []int {
	if l := fullSlots(s); len(l) > 0 {
		return l
	}
	return []int{0}
}

// slotFields and thingFields set one field each.
func slotFields() []func(x *state.Slot, n int) {
	return []func(x *state.Slot, n int){
		func(x *state.Slot, n int) { x.Cap.Type = n }, func(x *state.Slot, n int) { x.Cap.Thing = n }, func(x *state.Slot, n int) { x.Cap.Rights = n }, func(x *state.Slot, n int) { x.Cap.Badge = n }, func(x *state.Slot, n int) { x.Up = n },
	}
}

func thingFields() []func(x *thing.Thing, n int) {
	return []func(x *thing.Thing, n int){
		func(x *thing.Thing, n int) { x.Type = n }, func(x *thing.Thing, n int) { x.Bits = n }, func(x *thing.Thing, n int) { x.Base = n }, func(x *thing.Thing, n int) { x.Size = n }, func(x *thing.Thing, n int) { x.Used = n }, func(x *thing.Thing, n int) { x.From = n }, func(x *thing.Thing, n int) { x.Badge = n }, func(x *thing.Thing, n int) { x.Full = !x.Full }, func(x *thing.Thing, n int) { x.Word = uint64(n) },
		func(x *thing.Thing, n int) { x.Data[0] = uint64(n) }, func(x *thing.Thing, n int) { x.Data[1] = uint64(n) }, func(x *thing.Thing, n int) { x.Data[2] = uint64(n) }, func(x *thing.Thing, n int) { x.Data[3] = uint64(n) },
	}
}

func geoFields() []func(g *geo.Geo, n int) {
	return []func(g *geo.Geo, n int){
		func(g *geo.Geo, n int) { g.Threads = n }, func(g *geo.Geo, n int) { g.Slots = n }, func(g *geo.Geo, n int) { g.Things = n },
	}
}

// twists change a state in one place.
func twists() []func(d *dice, s *state.State) {
	return []func(d *dice, s *state.State){
		func(d *dice, s *state.State) {
			pick(d, slotFields())(&s.Slots[d.below(len(s.Slots))], anyNumber(d, *s))
		},
		func(d *dice, s *state.State) {
			pick(d, slotFields())(&s.Slots[pick(d, fulls(*s))], anyNumber(d, *s))
		},
		func(d *dice, s *state.State) { s.Slots[pick(d, fulls(*s))].Up = pick(d, fulls(*s)) },
		func(d *dice, s *state.State) { s.Slots[pick(d, fulls(*s))].Cap.Rights = d.below(8) },
		func(d *dice, s *state.State) { s.Slots[pick(d, fulls(*s))] = state.Slot{Up: -1} },
		func(d *dice, s *state.State) {
			from := pick(d, fulls(*s))
			s.Slots[d.below(len(s.Slots))] = state.Slot{Cap: s.Slots[from].Cap, Up: from}
		},
		func(d *dice, s *state.State) {
			pick(d, thingFields())(&s.Things[d.below(len(s.Things))], anyNumber(d, *s))
		},
		func(d *dice, s *state.State) { s.Things[pick(d, nodesOf(*s))].Base += d.below(5) - 2 },
		func(d *dice, s *state.State) { shiftNode(d, s) },
		func(d *dice, s *state.State) { s.Things[d.below(len(s.Things))] = thing.Thing{Type: d.below(6)} },
		func(d *dice, s *state.State) {
			s.Things[1] = thing.Thing{Type: 3, Full: true, From: d.below(len(s.Slots) + 3)}
		},
		func(d *dice, s *state.State) { pick(d, geoFields())(&s.Geo, anyNumber(d, *s)) },
		func(d *dice, s *state.State) { s.Slots = append(s.Slots, state.Slot{Up: -1})[d.below(3)/2:] },
		func(d *dice, s *state.State) { s.Things = append(s.Things, thing.Thing{})[:len(s.Things)-1+d.below(3)] },
		func(d *dice, s *state.State) {
			s.Slots = append(s.Slots, state.Slot{Up: -1})
			s.Geo.Slots = len(s.Slots)
		},
		func(d *dice, s *state.State) { putNode(d, s) },
	}
}

// nodesOf gives the things that are nodes, and the first root's number: so there is always one.
func nodesOf(s state.State) []int {
	l := []int{2 % len(s.Things)}
	for t, x := range s.Things {
		if x.Type == 2 && t != 2 {
			l = append(l, t)
		}
	}
	return l
}

// putNode puts a capability of any node in any slot of a node: maybe its own.
func putNode(d *dice, s *state.State) {
	if free := emptySlots(*s); len(free) > 0 {
		s.Slots[pick(d, free)] = state.Slot{Cap: cap.Cap{Type: 2, Thing: pick(d, nodesOf(*s)), Rights: 7}, Up: -1}
	}
}

// shiftNode puts a node in which nothing is past the end, or near another one.
func shiftNode(d *dice, s *state.State) {
	bare := slices.DeleteFunc(nodesOf(*s), func(t int) bool {
		return slices.ContainsFunc(slotsOf(s.Things[t]), func(i int) bool { return fullAt(*s, i) })
	})
	if len(bare) == 0 {
		return
	}
	x := &s.Things[pick(d, bare)]
	x.Base = len(s.Slots) - d.below(len(slotsOf(*x))+1)
	if d.below(2) == 0 {
		x.Base = s.Things[pick(d, nodesOf(*s))].Base + d.below(33) - 16
	}
}

// Each clause must have been the only one that is broken, and often: else these states would not tell it from the others.
func TestAnyStatesTwisted(t *testing.T) {
	d := dice(1442695040888963407)
	alone, good, geos := map[string]int{}, 0, 0
	for range 700 {
		s := grow(&d, anyGeo(&d))
		for range 30 {
			x := copyOf(s)
			pick(&d, twists())(&d, &x)
			if d.below(4) == 0 {
				pick(&d, twists())(&d, &x)
			}
			check(t, x)
			l := broken(x)
			if len(l) == 0 {
				good++
			}
			if len(l) == 1 {
				alone[l[0]]++
			}
			if slices.Contains(l, "geo") {
				geos++
			}
		}
	}
	for _, c := range clauses() {
		if alone[c.name] < 5 {
			t.Errorf("the clause %q was broken alone %d times", c.name, alone[c.name])
		}
	}
	if good < 1000 || geos < 100 {
		t.Errorf("%d twisted states were Good, %d with a Geo that may not be", good, geos)
	}
}

func TestAnyTwistedStatesInNumbers(t *testing.T) {
	d := dice(6364136223846793005)
	for range 150 {
		x := copyOf(grow(&d, anyGeo(&d)))
		pick(&d, twists())(&d, &x)
		slots, things := []int{-1, 0, 8, 16, len(x.Slots) - 1, len(x.Slots), math.MaxInt}, []int{-1, 0, 2, 3, 4, 5, 6, len(x.Things), math.MinInt}
		checkNumbers(t, x, append(slots, fullSlots(x)...), things)
	}
}

// Any two states that are twisted of one are held against each other.
func TestSameOfAnyStates(t *testing.T) {
	d := dice(2862933555777941757)
	same := 0
	for range 400 {
		s := grow(&d, anyGeo(&d))
		l := []state.State{s, copyOf(s)}
		for range 6 {
			x := copyOf(s)
			pick(&d, twists())(&d, &x)
			l = append(l, x)
		}
		for _, a := range l {
			for _, b := range l {
				if got := state.Same(a, b); got != sameTold(a, b) {
					t.Errorf("P12.1: Same: %v, of %s and %s", got, tell(a), tell(b))
				}
				if state.Same(a, b) {
					same++
				}
			}
		}
	}
	if same < 4000 {
		t.Errorf("only %d of any two states were alike", same)
	}
}
