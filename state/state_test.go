package state_test

import (
	"fmt"
	"math"
	"slices"
	"testing"

	"reeve/api"
	"reeve/cap"
	"reeve/geo"
	"reeve/state"
	"reeve/thing"
)

func TestTheGivenNumbers(t *testing.T) {
	if api.Room != 1 || api.Node != 2 || api.Mail != 3 || api.Bell != 4 || api.Leaf != 5 || api.All != 7 || api.MaxThreads != 4 || api.MaxSlots != 96 || api.MaxThings != 48 || api.MaxBits != 4 || api.RootBits != 3 || api.MaxRoom != 4096 || api.MaxBadge != 65535 || api.EARG != 1 {
		t.Errorf("the tests' numbers are not api's")
	}
}

// rich has rooms 0 and 6, boxes 1 and 13, roots 2 and 3 (slots 0 to 15), node 4 (16 to 19), in it node 7 (24, 25), in that node 8 (26 to 41), leaf 5, bell 9.
// Slots 20 to 23 and 42 to 47 are nobody's; things 10 to 12, 14 and 15 are not there.
func rich() state.State {
	s := firstTold(geo.Geo{Threads: 2, Slots: 48, Things: 16}, 64)
	s.Things[0].Used = 26
	s.Things[1] = thing.Thing{Type: 3, Full: true, Word: 7, Badge: 5, From: 18}
	s.Things[4] = thing.Thing{Type: 2, Bits: 2, Base: 16}
	s.Things[5] = thing.Thing{Type: 5, Data: [4]uint64{1, 2, 3, 4}}
	s.Things[6] = thing.Thing{Type: 1, Size: 20, Used: 19}
	s.Things[7] = thing.Thing{Type: 2, Bits: 1, Base: 24}
	s.Things[8] = thing.Thing{Type: 2, Bits: 4, Base: 26}
	s.Things[9] = thing.Thing{Type: 4, Word: 5}
	s.Things[13] = thing.Thing{Type: 3}
	for _, x := range []struct{ slot, kind, thing, rights, badge, up int }{
		{2, 2, 4, 7, 0, 0}, {3, 1, 6, 7, 0, 0}, {4, 4, 9, 7, 0, 3}, {5, 4, 9, 3, 6, 4}, {10, 5, 5, 1, 0, 16}, {11, 4, 9, 2, 6, 5}, {13, 3, 13, 7, 0, -1},
		{16, 5, 5, 7, 0, 0}, {17, 2, 7, 7, 0, 0}, {24, 2, 8, 7, 0, 3}, {26, 3, 1, 2, 0, 9}, {41, 5, 5, 0, 0, 10},
	} {
		s.Slots[x.slot] = slot(x.kind, x.thing, x.rights, x.badge, x.up)
	}
	return s
}

func slot(kind, t, rights, badge, up int) state.Slot {
	return state.Slot{Cap: cap.Cap{Type: kind, Thing: t, Rights: rights, Badge: badge}, Up: up}
}

// bare is a slot that nothing is in.
func bare() state.Slot { return state.Slot{Up: -1} }

// whole has all of every number: each slot some node's, each thing there.
func whole() state.State {
	s := firstTold(geo.Geo{Threads: 4, Slots: 96, Things: 48}, 4096)
	for i := range 4 {
		s.Things[6+i] = thing.Thing{Type: 2, Bits: 4, Base: 32 + 16*i}
		s.Slots[2+i] = slot(2, 6+i, 7, 0, 0)
	}
	for t := 10; t < 48; t++ {
		s.Things[t] = thing.Thing{Type: 4}
		s.Slots[32+t] = slot(4, t, 7, 0, 0)
	}
	return s
}

// sizes gives Geos of each number of threads, with the fewest and the most slots and things, and some between.
func sizes() []geo.Geo {
	var l []geo.Geo
	for threads := 1; threads <= 4; threads++ {
		for _, slots := range []int{8 * threads, 8*threads + 8, 88, 96} {
			for _, things := range []int{threads + 2, threads + 3, 47, 48} {
				l = append(l, geo.Geo{Threads: threads, Slots: slots, Things: things})
			}
		}
	}
	return l
}

func checkNew(t *testing.T, g geo.Geo, room int) {
	t.Helper()
	s, e := state.New(g, room)
	if e != api.OK || !sameTold(s, firstTold(g, room)) {
		t.Errorf("P12.1: New(%v, %d): %s, %d, want %s", g, room, tell(s), e, tell(firstTold(g, room)))
	}
	if !state.Good(s) {
		t.Errorf("P12.1: New(%v, %d) is not Good", g, room)
	}
}

func TestNew(t *testing.T) {
	for _, g := range sizes() {
		for _, room := range []int{1, 2, 64, 255, 256, 4095, 4096} {
			checkNew(t, g, room)
		}
	}
	for room := 1; room <= 4096; room++ {
		checkNew(t, geo.Plain(), room)
	}
}

// All Geos about the limits: New takes just those that the chapter of geo calls Good.
func TestNewOfAllGeos(t *testing.T) {
	taken := 0
	for threads := -1; threads <= 6; threads++ {
		for slots := -8; slots <= 105; slots++ {
			for things := -1; things <= 50; things++ {
				g := geo.Geo{Threads: threads, Slots: slots, Things: things}
				s, e := state.New(g, 9)
				if !geoMayBe(state.State{Geo: g}) {
					checkRefused(t, g, 9, s, e)
					continue
				}
				taken++
				if e != api.OK || !sameTold(s, firstTold(g, 9)) {
					t.Errorf("P12.1: New(%v, 9): %s, %d", g, tell(s), e)
				}
			}
		}
	}
	if want := 12*46 + 11*45 + 10*44 + 9*43; taken != want {
		t.Errorf("P12.1: New took %d Geos, want %d", taken, want)
	}
}

func checkRefused(t *testing.T, g geo.Geo, room int, s state.State, e api.Errno) {
	t.Helper()
	if e != api.EARG || s.Geo != (geo.Geo{}) || len(s.Slots) != 0 || len(s.Things) != 0 {
		t.Errorf("P12.1: New(%v, %d): %s, %d, want nothing, EARG", g, room, tell(s), e)
	}
}

func TestNewRefuses(t *testing.T) {
	rooms := append(far(), -4096, -1, 0, 4097, 4098, 8192, 65536+64, 1<<32+64)
	for _, room := range slices.DeleteFunc(rooms, func(n int) bool { return 0 < n && n < 4097 }) {
		for _, g := range []geo.Geo{geo.Plain(), {Threads: 1, Slots: 8, Things: 3}, {Threads: 4, Slots: 96, Things: 48}, {}} {
			s, e := state.New(g, room)
			checkRefused(t, g, room, s, e)
		}
	}
	for _, n := range append(far(), 0, 5, 49, 104) {
		for _, set := range geoFields() {
			g := geo.Plain()
			set(&g, n)
			if !geoMayBe(state.State{Geo: g}) {
				s, e := state.New(g, 64)
				checkRefused(t, g, 64, s, e)
			}
		}
	}
}

func TestNewInNumbers(t *testing.T) {
	s, e := state.New(geo.Plain(), 64)
	if e != api.OK || len(fullSlots(s)) != 3 || len(s.Slots) != 32 || len(s.Things) != 16 || s.Geo != geo.Plain() {
		t.Fatalf("P12.1: New(Plain, 64): %s, %d", tell(s), e)
	}
	s, e = state.New(geo.Geo{Threads: 4, Slots: 32, Things: 6}, 1)
	want := []state.Slot{0: slot(1, 0, 7, 0, -1), 1: slot(3, 1, 7, 0, -1), 9: slot(3, 1, 7, 0, 1), 17: slot(3, 1, 7, 0, 1), 25: slot(3, 1, 7, 0, 1), 31: bare()}
	for i := range want {
		if !full(want[i]) {
			want[i] = bare()
		}
	}
	if e != api.OK || !slices.Equal(s.Slots, want) {
		t.Errorf("P12.1: New of 4 threads: slots %v, %d", s.Slots, e)
	}
	things := []thing.Thing{{Type: 1, Size: 1}, {Type: 3}, {Type: 2, Bits: 3}, {Type: 2, Bits: 3, Base: 8}, {Type: 2, Bits: 3, Base: 16}, {Type: 2, Bits: 3, Base: 24}}
	if !slices.Equal(s.Things, things) {
		t.Errorf("P12.1: New of 4 threads: things %+v", s.Things)
	}
}

// change is one of a state, and the clause of Good that it breaks: "" of one that leaves it Good.
type change struct {
	breaks string
	do     func(s *state.State)
}

// checkChanges holds each change by itself against the clause that it names, which is the only one that it may break.
func checkChanges(t *testing.T, base func() state.State, l []change) {
	t.Helper()
	if s := base(); !state.Good(s) || len(broken(s)) != 0 {
		t.Fatalf("P12.1: Good: %v, %q, of %s", state.Good(s), broken(s), tell(s))
	}
	for i, c := range l {
		s := base()
		c.do(&s)
		if names := fmt.Sprintf("%q", broken(s)); c.breaks == "" && names != "[]" || c.breaks != "" && names != fmt.Sprintf("[%q]", c.breaks) {
			t.Errorf("change %d breaks %s, not %q", i, names, c.breaks)
		}
		if got := state.Good(s); got != (c.breaks == "") {
			t.Errorf("P12.1: Good: %v, of change %d (%s): %s", got, i, c.breaks, tell(s))
		}
		slots := append(fullSlots(s), -1, 0, 12, 18, 20, 47, 48)
		check(t, s)
		checkNumbers(t, s, slots, []int{-1, 0, 1, 2, 3, 4, 5, 7, 8, 9, 15, 16})
		if c.breaks != "" {
			checkNothing(t, s)
		}
	}
}

// checkNothing holds the calls on what is not Good against the chapter in words of its own.
func checkNothing(t *testing.T, s state.State) {
	t.Helper()
	for i := range 50 {
		if state.Owner(s, i) != -1 || state.Holders(s, i) != nil || state.Inside(s, 4, i) || state.Inside(s, i, 24) {
			t.Errorf("P12.1: Owner, Holders or Inside of %d, of what is not Good: %s", i, tell(s))
		}
	}
	for bits := -1; bits < 6; bits++ {
		if base, ok := state.Gap(s, bits); base != 0 || ok {
			t.Errorf("P12.1: Gap(%d): %d, %v, of what is not Good: %s", bits, base, ok, tell(s))
		}
	}
	if got := state.Free(s); got != -1 {
		t.Errorf("P12.1: Free: %d, of what is not Good: %s", got, tell(s))
	}
}

func TestGoodCounts(t *testing.T) {
	for _, g := range sizes() {
		checkChanges(t, func() state.State { return firstTold(g, 64) }, []change{
			{"so many slots", func(s *state.State) { s.Slots = append(s.Slots, bare()) }},
			{"so many slots", func(s *state.State) { s.Slots = append(s.Slots, slices.Repeat([]state.Slot{bare()}, 8)...) }},
			{"so many things", func(s *state.State) { s.Things = append(s.Things, thing.Thing{}) }},
			{"geo", func(s *state.State) { s.Geo.Slots, s.Slots = g.Slots+1, append(s.Slots, bare()) }},
			{"geo", func(s *state.State) {
				s.Geo.Slots = 104
				s.Slots = append(s.Slots, slices.Repeat([]state.Slot{bare()}, 104-g.Slots)...)
			}},
			{"geo", func(s *state.State) {
				s.Geo.Things = 49
				s.Things = append(s.Things, make([]thing.Thing, 49-g.Things)...)
			}},
		})
		if g.Things > g.Threads+2 {
			checkChanges(t, func() state.State { return firstTold(g, 64) }, []change{{"so many things", func(s *state.State) { s.Things = s.Things[:g.Things-1] }}})
		}
		if g.Slots > 8*g.Threads {
			checkChanges(t, func() state.State { return firstTold(g, 64) }, []change{{"so many slots", func(s *state.State) { s.Slots = s.Slots[:g.Slots-1] }}})
		}
		// Where all slots are the roots', one less is none that a root has, too.
		s := firstTold(g, 64)
		s.Slots = s.Slots[:g.Slots-1]
		check(t, s)
		checkNothing(t, s)
	}
}

func TestGoodOfOtherCounts(t *testing.T) {
	for i, s := range []state.State{
		{}, {Geo: geo.Plain()}, {Slots: rich().Slots, Things: rich().Things}, {Geo: rich().Geo, Slots: rich().Slots}, {Geo: rich().Geo, Things: rich().Things},
		{Geo: geo.Plain(), Slots: make([]state.Slot, 1<<20), Things: make([]thing.Thing, 1<<20)}, {Geo: geo.Geo{Threads: 2, Slots: 1 << 20, Things: 1 << 20}, Slots: make([]state.Slot, 1<<20), Things: make([]thing.Thing, 1<<20)},
	} {
		if state.Good(s) {
			t.Errorf("P12.1: Good of number %d: true", i)
		}
		checkNothing(t, s)
	}
	for _, n := range far() {
		for _, set := range geoFields() {
			s := rich()
			set(&s.Geo, n)
			checkNothing(t, s)
			if state.Good(s) {
				t.Errorf("P12.1: Good with the Geo %v: true", s.Geo)
			}
		}
	}
	five := firstTold(geo.Geo{Threads: 5, Slots: 40, Things: 7}, 64)
	if state.Good(five) {
		t.Errorf("P12.1: Good of 5 threads: true")
	}
}

func TestGoodCaps(t *testing.T) {
	checkChanges(t, rich, []change{
		{"caps", func(s *state.State) { s.Slots[10].Cap.Rights = 8 }},
		{"caps", func(s *state.State) { s.Slots[10].Cap.Rights = -1 }},
		{"caps", func(s *state.State) { s.Slots[10].Cap.Badge = 1; s.Slots[41] = bare() }},
		{"caps", func(s *state.State) { s.Slots[11].Cap.Badge = 65536; s.Slots[11].Up = -1 }},
		{"caps", func(s *state.State) { s.Slots[11].Cap.Badge = -1; s.Slots[11].Up = -1 }},
		{"things", func(s *state.State) { s.Things[5].Word = 1 }},
		{"things", func(s *state.State) { s.Things[6].Used = 21 }},
		{"things", func(s *state.State) { s.Things[13].Word = 1 }},
		{"things", func(s *state.State) { s.Things[15].Word = 1 }},
		{"things", func(s *state.State) { s.Things[15].Data[3] = 1 }},
		{"things", func(s *state.State) { s.Things[1].Badge = 65536 }},
		{"things", func(s *state.State) { s.Things[0].Size = 4097 }},
		{"caps' things", func(s *state.State) { s.Slots[12] = slot(5, 10, 7, 0, -1) }},
		{"caps' things", func(s *state.State) { s.Slots[12] = slot(5, 15, 7, 0, -1) }},
		{"caps' things", func(s *state.State) { s.Slots[12] = slot(5, 16, 7, 0, -1) }},
		{"caps' things", func(s *state.State) { s.Slots[12] = slot(5, 47, 7, 0, -1) }},
		{"caps' things", func(s *state.State) { s.Slots[12] = slot(2, 15, 7, 0, -1) }},
		{"caps' things", func(s *state.State) { s.Slots[12] = slot(4, 5, 7, 0, -1) }},
		{"caps' things", func(s *state.State) { s.Slots[12] = slot(2, 5, 7, 0, -1) }},
		{"caps' things", func(s *state.State) { s.Slots[12] = slot(1, 1, 7, 0, -1) }},
		{"caps' things", func(s *state.State) { s.Slots[12] = slot(3, 0, 7, 0, -1) }},
		{"", func(s *state.State) { s.Slots[12] = slot(5, 5, 7, 0, -1) }},
		{"", func(s *state.State) { s.Slots[12] = slot(3, 13, 0, 65535, -1) }},
		{"", func(s *state.State) { s.Slots[12] = slot(1, 0, 7, 0, -1) }},
		{"", func(s *state.State) { s.Things[15] = thing.Thing{Type: 5}; s.Slots[12] = slot(5, 15, 7, 0, -1) }},
		{"", func(s *state.State) { s.Things[0].Used = 0; s.Things[9].Word = math.MaxUint64 }},
	})
	for _, n := range []int{48, 49, 96, -1, 1 << 32, 1<<32 + 5, math.MaxInt, math.MinInt} {
		for _, kind := range []int{0, 1, 5, 6, -1} {
			s := rich()
			s.Slots[12].Cap = cap.Cap{Type: kind, Thing: n, Rights: 7}
			check(t, s)
			checkNothing(t, s)
		}
	}
}

func TestGoodUps(t *testing.T) {
	checkChanges(t, rich, []change{
		{"ups", func(s *state.State) { s.Slots[10].Up = 48 }},
		{"ups", func(s *state.State) { s.Slots[10].Up = 49 }},
		{"ups", func(s *state.State) { s.Slots[10].Up = math.MaxInt }},
		{"ups", func(s *state.State) { s.Slots[10].Up = 1<<32 + 16 }},
		{"ups", func(s *state.State) { s.Slots[10].Up = -2 }},
		{"ups", func(s *state.State) { s.Slots[41].Up = -2 }},
		{"ups", func(s *state.State) { s.Slots[0].Up = -2 }},
		{"ups", func(s *state.State) { s.Slots[10].Up = -3 }},
		{"ups", func(s *state.State) { s.Slots[41].Up = math.MinInt }},
		{"ups", func(s *state.State) { s.Slots[10].Up = 10 }},
		{"ups", func(s *state.State) { s.Slots[0].Up = 0 }},
		{"ups", func(s *state.State) { s.Slots[41].Up = 41 }},
		{"ups", func(s *state.State) { s.Slots[16] = slot(5, 5, 1, 0, 10) }},
		{"ups", func(s *state.State) { s.Slots[16] = slot(5, 5, 0, 0, 41); s.Slots[10].Cap.Rights = 0 }},
		{"ups", func(s *state.State) { s.Slots[0] = slot(1, 0, 7, 0, 12); s.Slots[12] = slot(1, 0, 7, 0, 0) }},
		{"ups", func(s *state.State) { s.Slots[0].Up, s.Slots[3].Up = 3, 0 }},
		{"ups", func(s *state.State) { s.Slots[10].Up = 18 }},
		{"ups", func(s *state.State) { s.Slots[10].Up = 20 }},
		{"ups", func(s *state.State) { s.Slots[10].Up = 47 }},
		{"ups", func(s *state.State) { s.Slots[12].Up = 0 }},
		{"ups", func(s *state.State) { s.Slots[12].Up = -2 }},
		{"ups", func(s *state.State) { s.Slots[12].Up = 12 }},
		{"ups", func(s *state.State) { s.Slots[20].Up = -2 }},
		{"ups", func(s *state.State) { s.Slots[47].Up = 0 }},
		{"ups", func(s *state.State) { s.Slots[47].Up = 48 }},
		{"", func(s *state.State) { s.Slots[10].Up = -1 }},
		{"", func(s *state.State) { s.Slots[41].Up = -1 }},
		{"", func(s *state.State) { s.Slots[41].Up = 16 }},
		{"", func(s *state.State) { s.Slots[10].Up, s.Slots[12] = 12, slot(5, 5, 1, 0, 16) }},
	})
}

func TestGoodRoots(t *testing.T) {
	for _, g := range sizes() {
		for thread := range g.Threads {
			root, free := 2+thread, g.Slots > 8*g.Threads
			l := []change{
				{"roots", func(s *state.State) { s.Things[root] = thing.Thing{} }},
				{"roots", func(s *state.State) { s.Things[root] = thing.Thing{Type: 4} }},
				{"roots", func(s *state.State) { s.Things[root].Bits = 2 }},
				{"roots", func(s *state.State) { s.Things[root].Bits = 1 }},
			}
			if free && thread == g.Threads-1 {
				l = append(l,
					change{"roots", func(s *state.State) { s.Things[root].Bits = 4 }},
					change{"roots", func(s *state.State) { s.Things[root].Base++ }},
					change{"roots", func(s *state.State) { s.Things[root].Base = g.Slots - 8 }})
			}
			checkChanges(t, func() state.State { return withoutWays(g, thread) }, l)
		}
		if g.Threads > 1 {
			checkChanges(t, func() state.State { return withoutWays(g, 0) }, []change{{"roots", func(s *state.State) { s.Things[2].Base, s.Things[3].Base = 8, 0 }}})
		}
	}
}

// withoutWays is a first state in which nothing is in a thread's root; what was there is not there any more, or in another one's.
func withoutWays(g geo.Geo, thread int) state.State {
	s := firstTold(g, 64)
	for i := range 8 {
		s.Slots[8*thread+i] = bare()
	}
	for i := range s.Slots {
		s.Slots[i].Up = -1
	}
	for t := range 2 {
		if len(holdersTold(s, t)) == 0 {
			s.Things[t] = thing.Thing{}
		}
	}
	return s
}

func TestGoodNodes(t *testing.T) {
	checkChanges(t, rich, []change{
		{"in common", func(s *state.State) { s.Things[4].Base = 15 }},
		{"in common", func(s *state.State) {
			s.Things[4].Base, s.Slots[24], s.Slots[25] = 21, slot(5, 5, 7, 0, 0), bare()
			dropDeep(s)
		}},
		{"in common", func(s *state.State) { s.Things[8].Base = 25; s.Slots[41] = bare() }},
		{"in common", func(s *state.State) {
			s.Things[10] = thing.Thing{Type: 2, Bits: 1, Base: 41}
			s.Slots[12] = slot(2, 10, 7, 0, 0)
		}},
		{"in common", func(s *state.State) {
			s.Things[10] = thing.Thing{Type: 2, Bits: 1, Base: 23}
			s.Slots[12] = slot(2, 10, 7, 0, 0)
		}},
		{"in common", func(s *state.State) {
			s.Things[10] = thing.Thing{Type: 2, Bits: 1, Base: 19}
			s.Slots[12] = slot(2, 10, 7, 0, 0)
		}},
		{"in common", func(s *state.State) {
			s.Things[10] = thing.Thing{Type: 2, Bits: 1, Base: 30}
			s.Slots[12] = slot(2, 10, 7, 0, 0)
		}},
		{"in common", func(s *state.State) { s.Things[10] = s.Things[8]; s.Slots[12] = slot(2, 10, 7, 0, 0) }},
		{"in common", func(s *state.State) { s.Things[10] = thing.Thing{Type: 2, Bits: 1}; s.Slots[12] = slot(2, 10, 7, 0, 0) }},
		{"in common", func(s *state.State) {
			s.Things[10] = thing.Thing{Type: 2, Bits: 3, Base: 15}
			s.Slots[12] = slot(2, 10, 7, 0, 0)
		}},
		{"", func(s *state.State) {
			s.Things[10] = thing.Thing{Type: 2, Bits: 1, Base: 42}
			s.Slots[12] = slot(2, 10, 7, 0, 0)
		}},
		{"", func(s *state.State) {
			s.Things[10] = thing.Thing{Type: 2, Bits: 2, Base: 20}
			s.Slots[12] = slot(2, 10, 7, 0, 0)
		}},
		{"", func(s *state.State) {
			s.Things[10] = thing.Thing{Type: 2, Bits: 1, Base: 46}
			s.Slots[12] = slot(2, 10, 7, 0, 0)
		}},
		{"", func(s *state.State) {
			s.Things[10] = thing.Thing{Type: 2, Bits: 2, Base: 44}
			s.Slots[12] = slot(2, 10, 7, 0, 0)
		}},
		{"slots there", func(s *state.State) {
			s.Things[10] = thing.Thing{Type: 2, Bits: 1, Base: 47}
			s.Slots[12] = slot(2, 10, 7, 0, 0)
		}},
		{"slots there", func(s *state.State) {
			s.Things[10] = thing.Thing{Type: 2, Bits: 1, Base: 48}
			s.Slots[12] = slot(2, 10, 7, 0, 0)
		}},
		{"slots there", func(s *state.State) {
			s.Things[10] = thing.Thing{Type: 2, Bits: 1, Base: 94}
			s.Slots[12] = slot(2, 10, 7, 0, 0)
		}},
		{"slots there", func(s *state.State) {
			s.Things[10] = thing.Thing{Type: 2, Bits: 2, Base: 45}
			s.Slots[12] = slot(2, 10, 7, 0, 0)
		}},
		{"slots there", func(s *state.State) {
			s.Things[10] = thing.Thing{Type: 2, Bits: 3, Base: 42}
			s.Slots[12] = slot(2, 10, 7, 0, 0)
		}},
		{"homeless", func(s *state.State) { s.Slots[20] = slot(5, 5, 0, 0, 16) }},
		{"homeless", func(s *state.State) { s.Slots[23] = slot(1, 0, 7, 0, -1) }},
		{"homeless", func(s *state.State) { s.Slots[42] = slot(5, 5, 0, 0, 16) }},
		{"homeless", func(s *state.State) { s.Slots[47] = slot(5, 5, 0, 0, 16) }},
		{"", func(s *state.State) { s.Slots[19] = slot(5, 5, 0, 0, 16) }},
		{"", func(s *state.State) { s.Slots[25] = slot(5, 5, 0, 0, 16) }},
		{"", func(s *state.State) { s.Slots[40] = slot(5, 5, 0, 0, 16) }},
	})
}

// dropDeep takes away nodes 7 and 8, and what was in node 4 and is nobody's then, but for the leaf.
func dropDeep(s *state.State) {
	s.Things[7], s.Things[8] = thing.Thing{Type: 2, Bits: 1, Base: 24}, thing.Thing{}
	for _, i := range []int{10, 16, 17, 26, 41} {
		s.Slots[i] = bare()
	}
	s.Slots[12] = slot(2, 7, 7, 0, 0)
	s.Things[1].From = 0
}

func TestGoodRings(t *testing.T) {
	checkChanges(t, rich, []change{
		{"ring", func(s *state.State) { s.Slots[18] = slot(2, 4, 7, 0, 2) }},
		{"ring", func(s *state.State) { s.Slots[18] = slot(2, 4, 0, 0, -1) }},
		{"ring", func(s *state.State) { s.Slots[25] = slot(2, 4, 1, 0, 2) }},
		{"ring", func(s *state.State) { s.Slots[25] = slot(2, 7, 1, 0, 17) }},
		{"ring", func(s *state.State) { s.Slots[41] = slot(2, 4, 1, 0, 2) }},
		{"ring", func(s *state.State) { s.Slots[40] = slot(2, 7, 1, 0, 17) }},
		{"ring", func(s *state.State) { s.Slots[26] = slot(2, 8, 1, 0, 24) }},
		{"ring", func(s *state.State) { s.Slots[0+6] = slot(2, 2, 7, 0, -1) }},
		{"ring", func(s *state.State) { s.Slots[15] = slot(2, 3, 7, 0, -1) }},
		{"ring", func(s *state.State) { s.Slots[19] = slot(2, 2, 7, 0, -1) }},
		{"ring", func(s *state.State) { s.Slots[30] = slot(2, 2, 7, 0, -1) }},
		{"ring", func(s *state.State) { s.Slots[15] = slot(2, 2, 7, 0, -1); s.Slots[7] = slot(2, 3, 7, 0, -1) }},
		{"ring", func(s *state.State) { s.Slots[15] = slot(2, 4, 7, 0, -1); s.Slots[33] = slot(2, 3, 7, 0, -1) }},
		{"", func(s *state.State) { s.Slots[15] = slot(2, 2, 7, 0, -1) }},
		{"", func(s *state.State) { s.Slots[7] = slot(2, 3, 7, 0, -1) }},
		{"", func(s *state.State) { s.Slots[30] = slot(2, 3, 7, 0, -1) }},
		{"", func(s *state.State) { s.Slots[15] = slot(2, 4, 7, 0, 2); s.Slots[14] = slot(2, 8, 1, 0, 24) }},
		{"", func(s *state.State) { s.Slots[18] = slot(2, 8, 1, 0, 24); s.Slots[19] = slot(2, 7, 1, 0, 17) }},
		{"", func(s *state.State) { s.Slots[18] = slot(2, 7, 1, 0, 17); s.Slots[19] = slot(2, 7, 1, 0, 17) }},
	})
}

// A node in a node in a node, as many as there may be, and the last one's closed to a ring with each.
func TestGoodLongRings(t *testing.T) {
	deep := func() state.State {
		s := firstTold(geo.Geo{Threads: 1, Slots: 96, Things: 48}, 64)
		for n := range 44 {
			s.Things[3+n] = thing.Thing{Type: 2, Bits: 1, Base: 94 - 2*n}
			in := 94 - 2*n + 2
			if n == 0 {
				in = 7
			}
			s.Slots[in] = slot(2, 3+n, 7, 0, -1)
		}
		return s
	}
	s := deep()
	if !state.Good(s) {
		t.Fatalf("P12.1: Good of nodes in nodes: false, %q", broken(s))
	}
	for n := range 44 {
		if !state.Inside(s, 2, 95-2*n) || !state.Inside(s, 3, 95-2*n) || state.Inside(s, 46, 95-2*n) != (n == 43) {
			t.Errorf("P12.1: Inside of slot %d, in node %d", 95-2*n, 3+n)
		}
		x := deep()
		x.Slots[9] = slot(2, 3+n, 7, 0, -1)
		if state.Good(x) {
			t.Errorf("P12.1: Good of a ring through the last %d of 44 nodes: true", 44-n)
		}
		check(t, x)
	}
}

func TestGoodLess(t *testing.T) {
	checkChanges(t, rich, []change{
		{"less", func(s *state.State) { s.Slots[16].Cap.Rights = 6 }},
		{"less", func(s *state.State) { s.Slots[41].Cap.Rights = 2 }},
		{"less", func(s *state.State) { s.Slots[41].Cap.Rights = 4 }},
		{"less", func(s *state.State) { s.Slots[26].Cap.Rights, s.Slots[9].Cap.Rights = 2, 5 }},
		{"less", func(s *state.State) { s.Slots[11].Cap.Badge = 7 }},
		{"less", func(s *state.State) { s.Slots[11].Cap.Badge = 0 }},
		{"less", func(s *state.State) { s.Slots[4].Cap.Badge = 5 }},
		{"less", func(s *state.State) { s.Slots[10].Up = 1 }},
		{"less", func(s *state.State) { s.Slots[10].Up = 2 }},
		{"less", func(s *state.State) { s.Slots[9].Up = 16 }},
		{"less", func(s *state.State) { s.Slots[9].Up = 13 }},
		{"less", func(s *state.State) { s.Slots[17].Up = 2 }},
		{"less", func(s *state.State) { s.Slots[0].Up = 13 }},
		{"less", func(s *state.State) { s.Slots[3].Up = 13 }},
		{"less", func(s *state.State) { s.Slots[12] = slot(1, 6, 7, 0, 3); s.Slots[3].Cap.Rights = 3 }},
		{"less", func(s *state.State) { s.Slots[12] = slot(1, 0, 7, 0, 0); s.Slots[0].Cap.Rights = 6 }},
		{"less", func(s *state.State) { s.Slots[12] = slot(1, 0, 1, 0, 0); s.Slots[0].Cap.Rights = 0 }},
		{"", func(s *state.State) { s.Slots[12] = slot(1, 0, 6, 0, 0); s.Slots[0].Cap.Rights = 6 }},
		{"", func(s *state.State) { s.Slots[12] = slot(1, 0, 0, 0, 0); s.Slots[0].Cap.Rights = 0 }},
		{"", func(s *state.State) { s.Slots[0].Cap.Rights, s.Slots[3].Cap.Rights = 0, 0 }},
		{"", func(s *state.State) { s.Slots[12] = slot(1, 0, 7, 0, 3); s.Slots[3].Up = -1 }},
		{"", func(s *state.State) { s.Slots[1].Up = 0 }},
		{"", func(s *state.State) { s.Slots[12] = slot(3, 13, 7, 99, 3) }},
		{"", func(s *state.State) { s.Slots[12] = slot(3, 13, 7, 99, 13) }},
		{"", func(s *state.State) { s.Slots[12] = slot(3, 13, 7, 0, 13) }},
		{"", func(s *state.State) { s.Slots[11].Cap.Rights = 3 }},
		{"", func(s *state.State) { s.Slots[11].Cap.Badge = 7; s.Slots[11].Up = 4 }},
		{"", func(s *state.State) { s.Slots[11].Cap.Badge = 0; s.Slots[11].Up = 4 }},
		{"", func(s *state.State) { s.Slots[11].Cap.Badge = 7; s.Slots[11].Up = -1 }},
	})
}

// All pairs of rights and some badges, of one that came of another.
func TestGoodOfAllRights(t *testing.T) {
	for mine := range 8 {
		for of := range 8 {
			for _, badges := range [][2]int{{0, 0}, {0, 4}, {4, 0}, {4, 4}, {4, 5}, {65535, 65535}} {
				s := rich()
				s.Slots[13] = slot(3, 13, of, badges[1], -1)
				s.Slots[12] = slot(3, 13, mine, badges[0], 13)
				want := mine|of == of && (badges[1] == 0 || badges[0] == badges[1])
				if got := state.Good(s); got != want {
					t.Errorf("P12.1: Good: %v, rights %d of %d, badges %d", got, mine, of, badges)
				}
				s.Slots[13], s.Slots[12] = slot(3, 13, 7, 0, -1), slot(1, 6, mine, 0, 3)
				s.Slots[4].Up, s.Slots[24].Up = -1, -1
				s.Slots[3].Cap.Rights = of
				if got := state.Good(s); got != (mine|of == of) {
					t.Errorf("P12.1: Good: %v, a room's rights %d of %d", got, mine, of)
				}
				s.Slots[12].Up = 0
				if !state.Good(s) {
					t.Errorf("P12.1: Good of a room made of another: false, rights %d", mine)
				}
			}
		}
	}
}

func TestGoodHeld(t *testing.T) {
	checkChanges(t, rich, []change{
		{"held", func(s *state.State) { s.Things[10] = thing.Thing{Type: 4} }},
		{"held", func(s *state.State) { s.Things[15] = thing.Thing{Type: 5} }},
		{"held", func(s *state.State) { s.Things[12] = thing.Thing{Type: 3} }},
		{"held", func(s *state.State) { s.Things[12] = thing.Thing{Type: 1, Size: 1} }},
		{"held", func(s *state.State) { s.Things[12] = thing.Thing{Type: 2, Bits: 2, Base: 20} }},
		{"held", func(s *state.State) { s.Slots[13] = bare() }},
		{"held", func(s *state.State) { s.Slots[2] = bare() }},
		{"held", func(s *state.State) { s.Slots[1], s.Slots[9], s.Slots[26] = bare(), bare(), bare() }},
		{"held", func(s *state.State) { loseRoom(s); s.Things[0] = thing.Thing{Type: 1, Size: 64} }},
		{"", func(s *state.State) { loseRoom(s) }},
		{"", func(s *state.State) {
			s.Slots[1], s.Slots[9], s.Slots[26] = bare(), bare(), bare()
			s.Things[1] = thing.Thing{}
		}},
		{"", func(s *state.State) { s.Slots[13] = bare(); s.Things[13] = thing.Thing{} }},
		{"", func(s *state.State) { s.Slots[13], s.Slots[34] = bare(), s.Slots[13] }},
	})
}

// loseRoom takes thing 0 away, and its capability.
func loseRoom(s *state.State) {
	s.Things[0], s.Slots[0] = thing.Thing{}, bare()
	for i := range s.Slots {
		if s.Slots[i].Up == 0 {
			s.Slots[i].Up = -1
		}
	}
}

// Things 0 and 1 may be any, or none: only the first state has a room and a box there.
func TestGoodOfOtherFirstThings(t *testing.T) {
	put := func(x thing.Thing, in int, c state.Slot) func(s *state.State) {
		return func(s *state.State) { s.Things[c.Cap.Thing], s.Slots[in] = x, c }
	}
	checkChanges(t, func() state.State { return rootsAlone(geo.Plain()) }, []change{
		{"", func(s *state.State) {}},
		{"", put(thing.Thing{Type: 5}, 0, slot(5, 0, 7, 0, -1))},
		{"", put(thing.Thing{Type: 1, Size: 9}, 15, slot(1, 1, 7, 0, -1))},
		{"", put(node(4, 16), 3, slot(2, 0, 7, 0, -1))},
		{"", put(node(3, 24), 8, slot(2, 1, 7, 0, -1))},
		{"in common", put(node(1, 0), 3, slot(2, 0, 7, 0, -1))},
		{"in common", put(node(1, 7), 3, slot(2, 1, 7, 0, -1))},
		{"in common", put(node(1, 15), 3, slot(2, 1, 7, 0, -1))},
		{"slots there", put(node(1, 31), 3, slot(2, 0, 7, 0, -1))},
		{"ring", put(node(4, 16), 16, slot(2, 0, 7, 0, -1))},
		{"ring", put(node(4, 16), 31, slot(2, 1, 7, 0, -1))},
		{"held", func(s *state.State) { s.Things[0] = thing.Thing{Type: 4} }},
		{"held", func(s *state.State) { s.Things[1] = node(1, 16) }},
		{"caps' things", func(s *state.State) { s.Slots[0] = slot(1, 0, 7, 0, -1) }},
	})
}

func TestGoodFrom(t *testing.T) {
	mail := func(from int) func(s *state.State) {
		return func(s *state.State) { s.Things[1] = thing.Thing{Type: 3, Full: true, From: from} }
	}
	var l []change
	for from := 0; from <= 96; from++ {
		breaks := "from"
		if slices.Contains([]int{0, 1, 2, 3, 4, 5, 6, 10, 11, 12, 14, 17, 18, 25, 27, 42}, from) {
			breaks = ""
		}
		l = append(l, change{breaks, mail(from)})
	}
	l = append(l, change{"", func(s *state.State) { s.Things[1] = thing.Thing{Type: 3} }},
		change{"from", func(s *state.State) { s.Things[13] = thing.Thing{Type: 3, Full: true, From: 20} }},
		change{"", func(s *state.State) { s.Things[13] = thing.Thing{Type: 3, Full: true, From: 42} }})
	checkChanges(t, rich, l)
	checkChanges(t, func() state.State { return withoutWays(geo.Plain(), 0) }, []change{{"from", mail(1)}, {"from", mail(9)}, {"", mail(10)}})
	for _, from := range append(far(), -1, 97, 98, 256, 257) {
		s := rich()
		mail(from)(&s)
		check(t, s)
		checkNothing(t, s)
	}
	checkChanges(t, whole, []change{
		{"", mail(80)}, {"from", mail(81)}, {"from", mail(96)},
		{"", func(s *state.State) { s.Slots[95] = slot(4, 47, 7, 0, 0); mail(96)(s) }},
	})
}

func TestOwner(t *testing.T) {
	s := rich()
	want := map[int]int{0: 2, 1: 2, 7: 2, 8: 3, 9: 3, 15: 3, 16: 4, 18: 4, 19: 4, 20: -1, 23: -1, 24: 7, 25: 7, 26: 8, 40: 8, 41: 8, 42: -1, 46: -1, 47: -1, 48: -1, 49: -1, -1: -1, -2: -1, math.MaxInt: -1, math.MinInt: -1, 1 << 32: -1}
	for slot, node := range want {
		if got := state.Owner(s, slot); got != node {
			t.Errorf("P12.1: Owner(%d): %d, want %d", slot, got, node)
		}
	}
	checkAll(t, s)
	checkAll(t, whole())
	for i, node := range []int{6, 6, 7, 9} {
		if got := state.Owner(whole(), []int{32, 47, 48, 95}[i]); got != node {
			t.Errorf("P12.1: Owner in the whole one: %d, want %d", got, node)
		}
	}
	if got := state.Owner(whole(), 96); got != -1 {
		t.Errorf("P12.1: Owner past the last slot: %d", got)
	}
}

func TestFree(t *testing.T) {
	s := rich()
	if got := state.Free(s); got != 10 {
		t.Errorf("P12.1: Free: %d, want 10", got)
	}
	s.Slots[13], s.Things[13] = bare(), thing.Thing{}
	for i, want := range []int{10, 11, 12, 13, 14, 15, -1} {
		if got := state.Free(s); got != want {
			t.Errorf("P12.1: Free with things up to %d: %d, want %d", 9+i, got, want)
		}
		if want >= 0 {
			s.Things[want], s.Slots[30+i] = thing.Thing{Type: 4}, slot(4, want, 7, 0, 0)
		}
	}
	s.Slots[4], s.Slots[5], s.Slots[11], s.Things[9] = bare(), bare(), bare(), thing.Thing{}
	if got := state.Free(s); got != 9 {
		t.Errorf("P12.1: Free: %d, want 9", got)
	}
	loseRoom(&s)
	if got := state.Free(s); got != 0 {
		t.Errorf("P12.1: Free without thing 0: %d", got)
	}
	if got := state.Free(whole()); got != -1 {
		t.Errorf("P12.1: Free where no number is left: %d", got)
	}
	for _, g := range sizes() {
		want := g.Threads + 2
		if want == g.Things {
			want = -1
		}
		if got := state.Free(firstTold(g, 64)); got != want {
			t.Errorf("P12.1: Free of the first one of %v: %d, want %d", g, got, want)
		}
	}
}

// checkGaps holds Gap of 0 to MaxBits and one more against its bases: -1 where there is none.
func checkGaps(t *testing.T, what string, s state.State, want ...int) {
	t.Helper()
	if !state.Good(s) {
		t.Errorf("P12.1: Good of the one with %s: false, %q", what, broken(s))
	}
	for bits := range 6 {
		w := -1
		if bits > 0 && bits < 5 {
			w = want[bits-1]
		}
		if base, ok := state.Gap(s, bits); ok != (w >= 0) || base != max(w, 0) {
			t.Errorf("P12.1: Gap(%d): %d, %v, want %d, with %s", bits, base, ok, w, what)
		}
	}
	check(t, s)
}

// withNodes adds nodes to the first state of one thread, with their capabilities behind those that are there.
func withNodes(slots int, nodes ...thing.Thing) state.State {
	s := firstTold(geo.Geo{Threads: 1, Slots: slots, Things: 10}, 64)
	for i, x := range nodes {
		s.Things[3+i] = x
		s.Slots[2+i] = slot(2, 3+i, 7, 0, 0)
	}
	return s
}

func node(bits, base int) thing.Thing { return thing.Thing{Type: 2, Bits: bits, Base: base} }

func TestGap(t *testing.T) {
	checkGaps(t, "the rich one's", rich(), 20, 20, -1, -1)
	checkGaps(t, "no slot left", whole(), -1, -1, -1, -1)
	checkGaps(t, "the roots alone", withNodes(8), -1, -1, -1, -1)
	checkGaps(t, "8 slots", withNodes(16), 8, 8, 8, -1)
	checkGaps(t, "just 16 slots at the end", withNodes(24), 8, 8, 8, 8)
	checkGaps(t, "one of the 16 less, at the end", withNodes(24, node(1, 22)), 8, 8, 8, -1)
	checkGaps(t, "one of the 16 less, ahead", withNodes(24, node(1, 8)), 10, 10, 10, -1)
	checkGaps(t, "one of 16 in the midst", withNodes(24, node(1, 15)), 8, 8, -1, -1)
	checkGaps(t, "just 8 at the end", withNodes(24, node(1, 14)), 8, 8, 16, -1)
	checkGaps(t, "just 4 at the end", withNodes(16, node(1, 10)), 8, 12, -1, -1)
	checkGaps(t, "one of 4 less at the end", withNodes(16, node(2, 9)), 13, -1, -1, -1)
	checkGaps(t, "just 2 at the end", withNodes(16, node(2, 8), node(1, 12)), 14, -1, -1, -1)
	checkGaps(t, "one of 2 less at the end", withNodes(16, node(2, 9), node(1, 13)), -1, -1, -1, -1)
	checkGaps(t, "single slots alone", withNodes(24, node(1, 9), node(1, 12), node(1, 15), node(1, 18), node(1, 21)), -1, -1, -1, -1)
	checkGaps(t, "an odd base", withNodes(24, node(1, 9)), 11, 11, 11, -1)
	checkGaps(t, "the nodes out of order", withNodes(32, node(2, 20), node(1, 8)), 10, 10, 10, -1)
	checkGaps(t, "all 88", withNodes(96), 8, 8, 8, 8)
	checkGaps(t, "just 16 of 96", withNodes(96, node(4, 8), node(4, 24), node(4, 40), node(4, 56), node(3, 72)), 80, 80, 80, 80)
	checkGaps(t, "15 of 96", withNodes(96, node(4, 9), node(4, 25), node(4, 41), node(4, 57), node(3, 73)), 81, 81, 81, -1)
}

func TestHolders(t *testing.T) {
	s := rich()
	for x, want := range map[int][]int{0: {0}, 1: {1, 9, 26}, 2: nil, 3: nil, 4: {2}, 5: {10, 16, 41}, 6: {3}, 7: {17}, 8: {24}, 9: {4, 5, 11}, 10: nil, 13: {13}, 15: nil, 16: nil, 47: nil, 48: nil, -1: nil, -2: nil, math.MaxInt: nil, math.MinInt: nil} {
		if got := state.Holders(s, x); !slices.Equal(got, want) {
			t.Errorf("P12.1: Holders(%d): %d, want %d", x, got, want)
		}
	}
	s.Slots[15], s.Slots[40] = slot(2, 2, 7, 0, -1), slot(1, 0, 0, 0, 0)
	if one, other := state.Holders(s, 2), state.Holders(s, 0); !slices.Equal(one, []int{15}) || !slices.Equal(other, []int{0, 40}) {
		t.Errorf("P12.1: Holders of a root, of a room: %d, %d", one, other)
	}
	loseRoom(&s)
	s.Slots[40] = bare()
	if got := state.Holders(s, 0); len(got) != 0 || !state.Good(s) {
		t.Errorf("P12.1: Holders(0) without thing 0: %d", got)
	}
	many := firstTold(geo.Geo{Threads: 4, Slots: 32, Things: 6}, 64)
	var all []int
	for i := range many.Slots {
		if i > 0 {
			many.Slots[i] = slot(3, 1, 7, 0, -1)
			all = append(all, i)
		}
	}
	if got := state.Holders(many, 1); !slices.Equal(got, all) {
		t.Errorf("P12.1: Holders of what all slots have: %d", got)
	}
}

func TestForest(t *testing.T) {
	f := state.Forest(rich())
	if want := []int{-1, -1, 0, 0, 3, 4, -2, -2, -2, 1, 16, 5, -2, -1, -2, -2, 0, 0, -2, -2, -2, -2, -2, -2, 3, -2, 9}; !slices.Equal(f.Up[:27], want) || len(f.Up) != 48 || f.Up[41] != 10 || f.Up[47] != -2 {
		t.Errorf("P12.1: Forest: %d", f.Up)
	}
	// Also of what is not Good: by its slots, as they are.
	for i, c := range []struct {
		s    state.State
		want []int
	}{
		{state.State{}, nil},
		{state.State{Slots: []state.Slot{{}, {Up: 1}, {Up: -2}, {Up: 77}}}, []int{-2, -2, -2, -2}},
		{state.State{Slots: []state.Slot{slot(1, 0, 7, 0, 0), slot(9, 0, 0, 0, -2), slot(0, 1, 0, 0, 5), slot(0, 0, 1, 0, math.MinInt), slot(0, 0, 0, 1, math.MaxInt), slot(0, -1, 0, 0, -1)}}, []int{0, -2, 5, math.MinInt, math.MaxInt, -1}},
	} {
		if got := state.Forest(c.s); !slices.Equal(got.Up, c.want) {
			t.Errorf("P12.1: Forest of number %d: %d, want %d", i, got.Up, c.want)
		}
	}
	if got := state.Forest(state.State{Slots: make([]state.Slot, 1<<20)}); len(got.Up) != 1<<20 || got.Up[1<<20-1] != -2 {
		t.Errorf("P12.1: Forest of many slots: %d", len(got.Up))
	}
}

func TestInside(t *testing.T) {
	s := rich()
	for _, c := range []struct {
		node, slot int
		want       bool
	}{
		{4, 16, true}, {4, 19, true}, {4, 18, true}, {4, 24, true}, {4, 25, true}, {4, 26, true}, {4, 41, true}, {4, 15, false}, {4, 20, false}, {4, 23, false}, {4, 42, false}, {4, 2, false}, {4, 9, false},
		{7, 24, true}, {7, 26, true}, {7, 41, true}, {7, 16, false}, {7, 17, false}, {7, 2, false}, {8, 26, true}, {8, 33, true}, {8, 24, false}, {8, 18, false}, {8, 42, false},
		{2, 0, true}, {2, 7, true}, {2, 8, false}, {2, 16, true}, {2, 25, true}, {2, 41, true}, {2, 20, false}, {2, 47, false}, {3, 8, true}, {3, 15, true}, {3, 16, false}, {3, 0, false}, {3, 26, false},
		{0, 0, false}, {1, 1, false}, {5, 16, false}, {6, 3, false}, {9, 4, false}, {10, 20, false}, {15, 0, false}, {16, 16, false}, {47, 0, false}, {-1, 20, false}, {-1, 0, false}, {-1, -1, false}, {math.MaxInt, 16, false}, {math.MinInt, 16, false},
		{4, -1, false}, {4, 48, false}, {4, math.MaxInt, false}, {4, math.MinInt, false}, {2, -1, false}, {2, 48, false},
	} {
		if got := state.Inside(s, c.node, c.slot); got != c.want {
			t.Errorf("P12.1: Inside(%d, %d): %v", c.node, c.slot, got)
		}
	}
	s.Slots[15], s.Slots[14] = slot(2, 8, 0, 0, -1), slot(2, 2, 1, 0, -1)
	for slot, want := range map[int]bool{0: true, 8: true, 17: true, 24: true, 41: true, 42: false} {
		if got := state.Inside(s, 3, slot); got != want {
			t.Errorf("P12.1: Inside(3, %d) with nodes 8 and 2 in it: %v", slot, got)
		}
	}
}

// After each Node's capability is put where Inside tells of no ring, the state is Good; where it tells of one, it is not.
func TestInsideIsARing(t *testing.T) {
	s := rich()
	for _, x := range []int{2, 3, 4, 7, 8} {
		for _, to := range emptySlots(s) {
			y := copyOf(s)
			y.Slots[to] = slot(2, x, 7, 0, -1)
			if state.Inside(s, x, to) == state.Good(y) {
				t.Errorf("P12.1: Inside(%d, %d): %v, but with it there Good: %v", x, to, state.Inside(s, x, to), state.Good(y))
			}
		}
	}
}

func TestClone(t *testing.T) {
	for _, s := range []state.State{{}, rich(), whole(), {Geo: geo.Geo{Threads: -1, Slots: math.MaxInt}, Slots: []state.Slot{slot(9, -1, 8, -5, 99)}}, {Things: []thing.Thing{{Type: 9}, {}}}} {
		before, c := copyOf(s), state.Clone(s)
		if !sameTold(c, before) || !state.Same(c, s) {
			t.Errorf("P12.1: Clone: %s, of %s", tell(c), tell(s))
		}
		for i := range c.Slots {
			c.Slots[i].Up += 5
		}
		for i := range c.Things {
			c.Things[i].Data[3]++
		}
		c.Geo.Threads++
		if !sameTold(s, before) {
			t.Errorf("R4: a change of the clone changes what it was made of: %s", tell(s))
		}
		d := state.Clone(s)
		for i := range s.Slots {
			s.Slots[i].Cap.Rights += 5
		}
		for i := range s.Things {
			s.Things[i].Word++
		}
		if !sameTold(d, before) {
			t.Errorf("R4: a change of what it was made of changes the clone: %s", tell(d))
		}
	}
}

func TestSameOfOneField(t *testing.T) {
	checkOther := func(what string, a, b state.State) {
		t.Helper()
		if state.Same(a, b) || state.Same(b, a) {
			t.Errorf("P12.1: Same of two that differ in %s: true", what)
		}
	}
	for i, set := range geoFields() {
		s := rich()
		set(&s.Geo, 99)
		checkOther(fmt.Sprint("Geo's field ", i), s, rich())
	}
	for i, set := range slotFields() {
		for at := range rich().Slots {
			s := rich()
			set(&s.Slots[at], 99)
			checkOther(fmt.Sprint("field ", i, " of slot ", at), s, rich())
		}
	}
	for i, set := range thingFields() {
		for at := range rich().Things {
			s := rich()
			set(&s.Things[at], 99)
			checkOther(fmt.Sprint("field ", i, " of thing ", at), s, rich())
		}
	}
	s := rich()
	for what, other := range map[string]state.State{
		"a slot less": {Geo: s.Geo, Slots: s.Slots[:47], Things: s.Things}, "a slot more": {Geo: s.Geo, Slots: append(rich().Slots, state.Slot{}), Things: s.Things}, "no slots": {Geo: s.Geo, Things: s.Things},
		"a thing less": {Geo: s.Geo, Slots: s.Slots, Things: s.Things[:15]}, "a thing more": {Geo: s.Geo, Slots: s.Slots, Things: append(rich().Things, thing.Thing{})}, "no things": {Geo: s.Geo, Slots: s.Slots}, "all": {},
	} {
		checkOther(what, s, other)
	}
}

func TestSame(t *testing.T) {
	if !state.Same(rich(), rich()) || !state.Same(whole(), whole()) || state.Same(rich(), whole()) || !state.Same(state.State{}, state.State{}) {
		t.Errorf("P12.1: Same")
	}
	none, empty := state.State{}, state.State{Slots: []state.Slot{}, Things: []thing.Thing{}}
	if !state.Same(none, empty) || !state.Same(empty, none) || !state.Same(none, state.Clone(empty)) {
		t.Errorf("R4: Same of nil and empty lists: false")
	}
	odd := state.State{Geo: geo.Geo{Threads: -7}, Slots: []state.Slot{slot(99, -1, 9, 9, -9)}, Things: []thing.Thing{{Type: 77, Bits: -1}}}
	if !state.Same(odd, copyOf(odd)) || state.Same(odd, none) {
		t.Errorf("P12.1: Same of what is not Good")
	}
}

func TestAnswersStay(t *testing.T) {
	for _, base := range []func() state.State{rich, whole} {
		s := base()
		for range 3 {
			checkAll(t, s)
		}
		if !sameTold(s, base()) {
			t.Errorf("R4: the calls changed a state: %s", tell(s))
		}
	}
}

func TestReply(t *testing.T) {
	if r := (state.Reply{Err: api.EVOID, W: math.MaxUint64, N: -1}); r == (state.Reply{}) || r != (state.Reply{Err: 14, W: 1<<64 - 1, N: -1}) {
		t.Errorf("P12.1: a Reply: %v", r)
	}
}
