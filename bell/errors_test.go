package bell_test

import (
	"math"
	"testing"

	"reeve/api"
	"reeve/call"
	"reeve/geo"
	"reeve/state"
	"reeve/thing"
)

// Of two errors at once, the one that the chapter names first: of both Ops.
func TestWhichErrorIsFirst(t *testing.T) {
	s := changed(t, rich(t), func(s *state.State) {
		s.Slots[29], s.Slots[30], s.Slots[7] = slot(3, 15, 1, 0, 25), slot(3, 15, 6, 0, 25), slot(5, 6, 6, 0, 5)
		s.Slots[33], s.Slots[37] = slot(4, 13, 4, 0, 23), slot(4, 5, 6, 0, 3)
	})
	for _, c := range []struct {
		name       string
		thread     int
		a          []int
		ring, poll api.Errno
	}{
		{"no slot A; no Bell's on the way", 0, []int{1, 0}, 3, 3},
		{"no slot A; a bell's that did not ring on the way", 0, []int{3, 0}, 3, 3},
		{"no slot A; nothing on the way", 0, []int{6, 0}, 3, 3},
		{"no slot A; a node's without Read on the way", 1, []int{3, 1}, 3, 3},
		{"nothing at A; so no Bell's, no rights, no word", 0, []int{6}, 4, 4},
		{"nothing at A; deeper, so no Bell's, no rights, no word", 0, []int{2, 15}, 4, 4},
		{"no Bell's; without rights", 0, []int{2, 1}, 7, 7},
		{"no Bell's, but a full box's; without Write", 0, []int{2, 13}, 7, 7},
		{"no Bell's, but a full box's; without Read", 0, []int{2, 14}, 7, 7},
		{"no Bell's, but a page's; without Read, without a word", 0, []int{7}, 7, 7},
		{"no Bell's, but an empty box's; without a word", 0, []int{2, 10}, 7, 7},
		{"no Bell's, but a room's; without a word", 0, []int{0}, 7, 7},
		{"no Bell's, but a node's; without a word", 0, []int{2}, 7, 7},
		{"no Bell's, but a node's without Read; without a word", 1, []int{3}, 7, 7},
		{"without Read; it did not ring", 0, []int{2, 3, 3}, 0, 6},
		{"without Read, without Write; it did not ring", 1, []int{6}, 6, 6},
		{"without Read, without Write; it rang", 0, []int{2, 2, 1}, 6, 6},
		{"without Write; it did not ring", 0, []int{2, 0}, 6, 14},
		{"without Write; its bit is set already", 0, []int{2, 12}, 6, 6},
	} {
		if _, r := check(t, s, c.thread, toRing(c.a...)); r.Err != c.ring {
			t.Errorf("P19.1: ring: %s: %d, want %d", c.name, r.Err, c.ring)
		}
		if _, r := check(t, s, c.thread, toPoll(c.a...)); r.Err != c.poll {
			t.Errorf("P19.1: poll: %s: %d, want %d", c.name, r.Err, c.poll)
		}
	}
}

// Ahead of all: whatever else there is to be refused by, it is EARG.
func TestAheadOfAll(t *testing.T) {
	s := rich(t)
	for _, a := range [][]int{{0}, {1}, {2}, {3}, {4}, {6}, {8}, {1, 0}, {2, 0}, {2, 1}, {2, 4}, {2, 12}, {2, 3, 1}} {
		for _, c := range notGood(a) {
			for thread := -1; thread <= 2; thread++ {
				refused(t, s, thread, c, api.EARG)
			}
		}
		for _, thread := range append(far(), 2, 3, 4) {
			refused(t, s, thread, toRing(a...), api.EARG)
			refused(t, s, thread, toPoll(a...), api.EARG)
		}
	}
	for threads := 1; threads <= 4; threads++ {
		for thread := -2; thread < 6; thread++ {
			want := api.ETYPE
			if thread < 0 || thread >= threads {
				want = api.EARG
			}
			refused(t, first(threads), thread, toRing(1), want)
			refused(t, first(threads), thread, toPoll(1), want)
		}
	}
}

// notGood gives calls by a way that are not Good, or of another Op.
func notGood(a []int) []call.Call {
	b := way(6)
	l := []call.Call{
		{}, {Op: 9}, {Op: 10}, {Op: 9, B: way(a...)}, {Op: 10, B: way(a...)},
		{Op: 1, A: way(a...), B: b, X: 4}, {Op: 2, A: way(a...), B: b, X: 4}, {Op: 2, A: way(a...), B: b}, {Op: 3, A: way(a...), B: b, X: 4, Y: 1}, {Op: 4, A: way(a...), B: b}, {Op: 5, A: way(a...)}, {Op: 6, A: way(a...)},
		{Op: 7, A: way(a...)}, {Op: 7, A: way(a...), W: 3}, {Op: 8, A: way(a...)}, {Op: 8, A: way(a...), B: b}, {Op: 11, A: way(a...)}, {Op: 11, A: way(a...), X: 3, W: 4}, {Op: 12, A: way(a...)}, {Op: 12, A: way(a...), X: 3}, {Op: 13, A: way(a...)},
	}
	for _, op := range []int{9, 10} {
		for _, n := range []int{1, 3, 4, 7, 65535, 1 << 16, 1 << 32, -1, math.MinInt, math.MaxInt} {
			l = append(l, call.Call{Op: op, A: way(a...), X: n}, call.Call{Op: op, A: way(a...), Y: n}, call.Call{Op: op, A: way(a...), W: uint64(n)}, call.Call{Op: op, A: way(a...), B: way(n)})
		}
		for _, p := range [][]int{{0}, {6}, a, {2, 3, 0}, {0, 0, 0, 0}} {
			l = append(l, call.Call{Op: op, A: way(a...), B: way(p...)}, call.Call{Op: op, B: way(p...)})
		}
		for _, p := range [][]int{{}, {0, 0, 0, 0}, {2, 3, 0, 0}, {16}, {-1}, {2, 16}, {2, -1}, {1 << 32}, {3 + 1<<32}, {math.MinInt}, make([]int, 1<<16)} {
			l = append(l, call.Call{Op: op, A: way(p...)})
		}
	}
	for _, op := range []int{-1, 0, 5, 6, 8, 11, 12, 13, 14, 255, 256 + 9, 256 + 10, 9 + 1<<32, 10 + 1<<32, math.MinInt + 9, math.MinInt + 10, math.MaxInt} {
		l = append(l, call.Call{Op: op, A: way(a...)})
	}
	return l
}

// notGoodStates gives rich with each clause of what makes a state Good, broken by itself.
func notGoodStates(t *testing.T) []state.State {
	t.Helper()
	var l []state.State
	for i, change := range []func(s *state.State){
		func(s *state.State) { s.Geo.Threads = 3 },
		func(s *state.State) { s.Geo.Threads = 0 },
		func(s *state.State) { s.Geo.Threads = 1 << 32 },
		func(s *state.State) { s.Geo.Slots = 88 },
		func(s *state.State) { s.Geo.Things++ },
		func(s *state.State) { s.Geo = geo.Geo{} },
		func(s *state.State) { s.Slots = s.Slots[:88] },
		func(s *state.State) { s.Slots = append(s.Slots, bare()) },
		func(s *state.State) { s.Slots = nil },
		func(s *state.State) { s.Things = s.Things[:19] },
		func(s *state.State) { s.Things = nil },
		func(s *state.State) { s.Things = make([]thing.Thing, 1<<12) },
		func(s *state.State) { s.Slots[6].Cap.Rights = 1 },
		func(s *state.State) { s.Slots[3].Cap.Rights = 15 },
		func(s *state.State) { s.Slots[3].Cap.Rights = -1 },
		func(s *state.State) { s.Slots[22].Cap.Thing = 20 },
		func(s *state.State) { s.Slots[22].Cap.Thing = math.MaxInt },
		func(s *state.State) { s.Slots[22].Cap.Thing = -1 },
		func(s *state.State) { s.Slots[22].Cap.Thing = 19 },
		func(s *state.State) { s.Slots[22].Cap.Type = 5 },
		func(s *state.State) { s.Slots[22].Cap.Badge = 65536 },
		func(s *state.State) { s.Slots[22].Cap.Badge = -1 },
		func(s *state.State) { s.Slots[22].Cap.Badge = math.MinInt },
		func(s *state.State) { s.Slots[5].Cap.Badge = 1 },
		func(s *state.State) { s.Slots[3].Cap.Rights = 3 },
		func(s *state.State) { s.Slots[3].Cap.Badge = 9 },
		func(s *state.State) { s.Slots[6].Up = 0 },
		func(s *state.State) { s.Slots[0].Up = 0 },
		func(s *state.State) { s.Slots[3].Up = -2 },
		func(s *state.State) { s.Slots[3].Up = 6 },
		func(s *state.State) { s.Slots[3].Up = 20 },
		func(s *state.State) { s.Slots[3].Up = 4 },
		func(s *state.State) { s.Slots[95] = slot(4, 5, 5, 0, -1) },
		func(s *state.State) { s.Things[0].Used = 65 },
		func(s *state.State) { s.Things[5] = thing.Thing{} },
		func(s *state.State) { s.Things[5].Type = 6 },
		func(s *state.State) { s.Things[5].Full = true },
		func(s *state.State) { s.Things[5].Badge = 1 },
		func(s *state.State) { s.Things[5].From = 1 },
		func(s *state.State) { s.Things[10].Size = 1 },
		func(s *state.State) { s.Things[10].Data[3] = 1 },
		func(s *state.State) { s.Things[2] = thing.Thing{} },
		func(s *state.State) { s.Things[3].Base = 54 },
		func(s *state.State) { s.Things[4].Bits = 63 },
		func(s *state.State) { s.Things[4].Bits = -1 },
		func(s *state.State) { s.Things[7].Base = 31 },
		func(s *state.State) { s.Things[7].Base = 95 },
		func(s *state.State) { s.Things[19] = ringing(4) },
		func(s *state.State) { s.Things[1].From = 7 },
		func(s *state.State) { s.Things[1].From = 97 },
		func(s *state.State) { s.Slots[33] = slot(2, 4, 7, 0, 2) },
		func(s *state.State) { *s = state.State{} },
		func(s *state.State) { *s = state.State{Geo: geo.Plain()} },
	} {
		s := copyOf(rich(t))
		change(&s)
		if state.Good(s) {
			t.Errorf("change %d leaves the state Good", i)
		}
		l = append(l, s)
	}
	return l
}

func TestStatesThatAreNotGood(t *testing.T) {
	for _, s := range notGoodStates(t) {
		for thread := -1; thread <= 3; thread++ {
			for _, a := range [][]int{{0}, {1}, {2}, {3}, {4}, {5}, {6}, {8}, {2, 0}, {2, 1}, {2, 4}, {2, 6}, {2, 3, 0}} {
				refused(t, s, thread, toRing(a...), api.EARG)
				refused(t, s, thread, toPoll(a...), api.EARG)
			}
			refused(t, s, thread, call.Call{}, api.EARG)
			refused(t, s, thread, call.Call{Op: 13, A: way(3)}, api.EARG)
		}
	}
}
