package mail_test

import (
	"math"
	"testing"

	"reeve/api"
	"reeve/call"
	"reeve/geo"
	"reeve/state"
	"reeve/thing"
)

// Of two errors at once, the one that the chapter names first: of a call to send.
func TestWhichErrorOfASendIsFirst(t *testing.T) {
	s := changed(t, rich(t), func(s *state.State) {
		// box 11, which is full: with Grant alone, with Write alone, and without either
		s.Slots[28], s.Slots[29], s.Slots[30] = slot(3, 11, 4, 0, 21), slot(3, 11, 2, 0, 21), slot(3, 11, 1, 0, 21)
		s.Slots[31] = slot(5, 6, 7, 0, 4)
	})
	for _, c := range []struct {
		name string
		a, b []int
		want api.Errno
	}{
		{"no slot A; no slot B", []int{8}, []int{9}, 3},
		{"no slot A; nothing at B", []int{1, 0}, []int{6}, 3},
		{"no slot A; a Room's at B", []int{8}, []int{0}, 3},
		{"nothing at A; no slot B", []int{6}, []int{8}, 4},
		{"nothing at A; a Room's at B", []int{6}, []int{0}, 4},
		{"nothing at A; nothing at B", []int{6}, []int{7}, 4},
		{"no Mail's; without Write and Grant", []int{2, 1}, nil, 7},
		{"no Mail's; without Write and Grant, with B", []int{2, 1}, []int{1}, 7},
		{"no Mail's; no slot B", []int{2, 15}, []int{8}, 7},
		{"no Mail's; nothing at B", []int{3}, []int{6}, 7},
		{"no Mail's; a Room's at B", []int{0}, []int{0}, 7},
		{"without Write; no slot B", []int{2, 12}, []int{8}, 6},
		{"without Write; nothing at B", []int{2, 12}, []int{6}, 6},
		{"without Write; a Room's at B", []int{2, 12}, []int{0}, 6},
		{"without Write; a full box", []int{2, 12}, nil, 6},
		{"without Write; a full box, with B", []int{2, 12}, []int{1}, 6},
		{"without Write, without Grant; a full box", []int{2, 14}, []int{1}, 6},
		{"without Write, without Grant; a full box, with no B", []int{2, 14}, nil, 6},
		{"without Grant; no slot B", []int{5}, []int{8}, 6},
		{"without Grant; no slot B, a full box", []int{2, 13}, []int{1, 0}, 6},
		{"without Grant; nothing at B", []int{5}, []int{6}, 6},
		{"without Grant; nothing at B, a full box", []int{2, 13}, []int{2, 2, 1}, 6},
		{"without Grant; a Room's at B", []int{5}, []int{0}, 6},
		{"without Grant; a Room's at B, a full box", []int{2, 13}, []int{0}, 6},
		{"without Grant; a full box", []int{2, 13}, []int{1}, 6},
		{"no slot B; a full box", []int{2, 5}, []int{8}, 3},
		{"no slot B; a full box, deeper", []int{2, 5}, []int{2, 2, 2}, 3},
		{"nothing at B; a full box", []int{2, 5}, []int{6}, 4},
		{"nothing at B; a full box, deeper", []int{2, 6}, []int{2, 2, 1}, 4},
		{"a Room's at B; a full box", []int{2, 5}, []int{0}, 7},
		{"a Room's at B; a full box that has it already", []int{2, 8}, []int{0}, 7},
		{"a full box, without Grant, but without B", []int{2, 13}, nil, 13},
	} {
		for _, w := range []uint64{0, 1, 77, math.MaxUint64} {
			if refused(t, s, 0, toSend(c.a, c.b, w), c.want); t.Failed() {
				t.Fatalf("%s", c.name)
			}
		}
	}
}

// Of two errors at once, the one that the chapter names first: of a call to receive.
func TestWhichErrorOfARecvIsFirst(t *testing.T) {
	s := changed(t, rich(t), func(s *state.State) {
		// without Read: box 10, which is empty, and those that hand on a bell's (12), node 4's (13), a Room's (14)
		s.Slots[28], s.Slots[29], s.Slots[30], s.Slots[31] = slot(3, 10, 6, 0, 20), slot(3, 12, 6, 0, 22), slot(3, 13, 2, 0, 23), slot(3, 14, 4, 0, 24)
	})
	for _, c := range []struct {
		name string
		a, b []int
		want api.Errno
	}{
		{"no slot A; no slot B", []int{8}, []int{9}, 3},
		{"no slot A; taken", []int{1, 0}, []int{1}, 3},
		{"nothing at A; no slot B", []int{6}, []int{8}, 4},
		{"nothing at A; taken", []int{6}, []int{0}, 4},
		{"no Mail's; without Read", []int{2, 1}, nil, 7},
		{"no Mail's; without Read, with B", []int{2, 1}, []int{6}, 7},
		{"no Mail's; no slot B", []int{4}, []int{8}, 7},
		{"no Mail's; taken", []int{0}, []int{0}, 7},
		{"without Read; an empty box", []int{2, 12}, nil, 6},
		{"without Read; an empty box, with B", []int{2, 12}, []int{6}, 6},
		{"without Read; an empty box, taken", []int{2, 12}, []int{1}, 6},
		{"without Read; no slot B", []int{2, 13}, []int{8}, 6},
		{"without Read; taken", []int{2, 13}, []int{1}, 6},
		{"without Read; a ring", []int{2, 14}, []int{2, 3, 3}, 6},
		{"without Read; a Room's", []int{2, 15}, []int{6}, 6},
		{"an empty box; no slot B", []int{1}, []int{8}, 14},
		{"an empty box; taken", []int{1}, []int{1}, 14},
		{"an empty box; taken by a Room's", []int{2, 4}, []int{0}, 14},
		{"no slot B; a Room's", []int{2, 8}, []int{8}, 3},
		{"no slot B; a Room's, deeper", []int{2, 8}, []int{2, 2, 2}, 3},
		{"no slot B; a node's", []int{2, 7}, []int{2, 2, 2}, 3},
		{"taken; a Room's", []int{2, 8}, []int{1}, 5},
		{"taken; a Room's by itself", []int{2, 8}, []int{0}, 5},
		{"taken; a ring", []int{2, 7}, []int{2, 0}, 5},
		{"taken; a ring, by the node's own box", []int{2, 7}, []int{2, 7}, 5},
		{"taken; a ring, deeper", []int{2, 7}, []int{2, 2, 0}, 5},
	} {
		if refused(t, s, 0, toRecv(c.a, c.b), c.want); t.Failed() {
			t.Fatalf("%s", c.name)
		}
	}
}

// Ahead of all: whatever else there is to be refused by, it is EARG.
func TestAheadOfAll(t *testing.T) {
	s := rich(t)
	for _, a := range [][]int{{0}, {1}, {2}, {5}, {6}, {8}, {2, 0}, {2, 5}, {2, 6}} {
		for _, b := range [][]int{{6}, {1}, {9}, {0}, {2, 4}, {2, 12}} {
			for _, c := range notGood(a, b) {
				for thread := -1; thread <= 2; thread++ {
					refused(t, s, thread, c, api.EARG)
				}
			}
			for _, thread := range append(far(), 2, 3, 4) {
				for _, c := range []call.Call{toSend(a, b, 7), toSend(a, nil, 0), toRecv(a, b), toRecv(a, nil)} {
					refused(t, s, thread, c, api.EARG)
				}
			}
		}
	}
	for threads := 1; threads <= 4; threads++ {
		for thread := -2; thread < 6; thread++ {
			for _, b := range [][]int{nil, {1}} {
				if thread < 0 || thread >= threads {
					refused(t, first(threads), thread, toSend([]int{1}, b, 8), api.EARG)
					refused(t, first(threads), thread, toRecv([]int{1}, b), api.EARG)
					continue
				}
				refused(t, first(threads), thread, toRecv([]int{1}, b), api.EVOID)
				next := sent(t, first(threads), thread, toSend([]int{1}, b, 8))
				got(t, next, thread, toRecv([]int{1}, nil), 8, 0)
				got(t, next, thread, toRecv([]int{1}, []int{7}), 8, 0)
			}
		}
	}
}

// notGood gives calls by these two ways that are not Good, or of another Op.
func notGood(a, b []int) []call.Call {
	l := []call.Call{
		{}, {Op: 7}, {Op: 7, W: 4}, {Op: 7, B: way(b...)}, {Op: 7, B: way(b...), W: 4}, {Op: 8}, {Op: 8, B: way(b...)},
		{Op: 7, A: way(a...), X: 1}, {Op: 7, A: way(a...), B: way(b...), X: 7}, {Op: 7, A: way(a...), Y: 1}, {Op: 7, A: way(a...), B: way(b...), Y: 1, W: 5}, {Op: 7, A: way(a...), X: -1}, {Op: 7, A: way(a...), Y: math.MinInt},
		{Op: 8, A: way(a...), X: 1}, {Op: 8, A: way(a...), B: way(b...), X: 7}, {Op: 8, A: way(a...), Y: 1}, {Op: 8, A: way(a...), B: way(b...), Y: -1}, {Op: 8, A: way(a...), W: 1}, {Op: 8, A: way(a...), B: way(b...), W: 1}, {Op: 8, A: way(a...), B: way(b...), W: 1 << 63},
		{Op: 1, A: way(a...), B: way(b...), X: 4}, {Op: 2, A: way(a...), B: way(b...), X: 4}, {Op: 2, A: way(a...), B: way(b...)}, {Op: 3, A: way(a...), B: way(b...), X: 4, Y: 1}, {Op: 4, A: way(a...), B: way(b...)}, {Op: 5, A: way(a...)}, {Op: 6, A: way(a...)},
		{Op: 9, A: way(a...)}, {Op: 10, A: way(a...)}, {Op: 11, A: way(a...), X: 3, W: 4}, {Op: 12, A: way(a...), X: 3}, {Op: 13, A: way(a...)},
	}
	for _, p := range [][]int{{0, 0, 0, 0}, {2, 2, 0, 0}, {16}, {-1}, {2, 16}, {2, -1}, {1 << 32}, {math.MinInt}, make([]int, 1<<16)} {
		l = append(l, toSend(p, b, 7), toSend(p, nil, 7), toSend(a, p, 7), toRecv(p, b), toRecv(p, nil), toRecv(a, p))
	}
	for _, op := range []int{-1, 0, 4, 5, 6, 9, 10, 13, 14, 255, 256 + 7, 256 + 8, 7 + 1<<32, 8 + 1<<32, math.MinInt + 7, math.MinInt + 8, math.MaxInt} {
		l = append(l, call.Call{Op: op, A: way(a...)}, call.Call{Op: op, A: way(a...), B: way(b...)}, call.Call{Op: op, A: way(a...), B: way(b...), W: 4})
	}
	return l
}

// notGoodStates gives rich with each clause of what makes a state Good, broken by itself.
func notGoodStates(t *testing.T) []state.State {
	t.Helper()
	var l []state.State
	for i, change := range []func(s *state.State){
		func(s *state.State) { s.Geo.Threads = 3 },
		func(s *state.State) { s.Geo.Threads = 0 },
		func(s *state.State) { s.Geo.Threads = 1 << 32 },
		func(s *state.State) { s.Geo.Slots = 88 },
		func(s *state.State) { s.Geo.Things++ },
		func(s *state.State) { s.Geo = geo.Geo{} },
		func(s *state.State) { s.Slots = s.Slots[:88] },
		func(s *state.State) { s.Slots = append(s.Slots, bare()) },
		func(s *state.State) { s.Slots = nil },
		func(s *state.State) { s.Things = s.Things[:19] },
		func(s *state.State) { s.Things = nil },
		func(s *state.State) { s.Things = make([]thing.Thing, 1<<12) },
		func(s *state.State) { s.Slots[6].Cap.Rights = 1 },
		func(s *state.State) { s.Slots[0].Cap.Rights = 8 },
		func(s *state.State) { s.Slots[1].Cap.Thing = 20 },
		func(s *state.State) { s.Slots[1].Cap.Thing = math.MaxInt },
		func(s *state.State) { s.Slots[1].Cap.Thing = -1 },
		func(s *state.State) { s.Slots[1].Cap.Thing = 19 },
		func(s *state.State) { s.Slots[0].Cap.Badge = 1 },
		func(s *state.State) { s.Slots[1].Cap.Type = 1 },
		func(s *state.State) { s.Slots[1].Cap.Badge = 65536 },
		func(s *state.State) { s.Slots[5].Cap.Rights = 4; s.Slots[1].Cap.Rights = 3 },
		func(s *state.State) { s.Slots[6].Up = 0 },
		func(s *state.State) { s.Slots[0].Up = 0 },
		func(s *state.State) { s.Slots[2].Up = 6 },
		func(s *state.State) { s.Slots[2].Up = 10 },
		func(s *state.State) { s.Slots[95] = slot(4, 5, 5, 0, -1) },
		func(s *state.State) { s.Things[0].Used = 65 },
		func(s *state.State) { s.Things[0].Word = 1 },
		func(s *state.State) { s.Things[1] = thing.Thing{} },
		func(s *state.State) { s.Things[1].Word = 1 },
		func(s *state.State) { s.Things[1].From = 1 },
		func(s *state.State) { s.Things[1].Badge = 1 },
		func(s *state.State) { s.Things[1] = thing.Thing{Type: 3, Full: true, Badge: 65536} },
		func(s *state.State) { s.Things[1] = thing.Thing{Type: 3, Full: true, Badge: -1} },
		func(s *state.State) { s.Things[2] = thing.Thing{} },
		func(s *state.State) { s.Things[3].Base = 54 },
		func(s *state.State) { s.Things[4].Bits = 63 },
		func(s *state.State) { s.Things[4].Bits = -1 },
		func(s *state.State) { s.Things[7].Base = 31 },
		func(s *state.State) { s.Things[7].Base = 95 },
		func(s *state.State) { s.Things[19] = thing.Thing{Type: 4} },
		func(s *state.State) { s.Things[11].From = 7 },
		func(s *state.State) { s.Things[11].From = 96 },
		func(s *state.State) { s.Things[11].From = 97 },
		func(s *state.State) { s.Things[11].From = -1 },
		func(s *state.State) { s.Things[11].From = math.MaxInt },
		func(s *state.State) { s.Slots[33] = slot(2, 4, 7, 0, 2) },
		func(s *state.State) { *s = state.State{} },
		func(s *state.State) { *s = state.State{Geo: geo.Plain()} },
	} {
		s := copyOf(rich(t))
		change(&s)
		if state.Good(s) {
			t.Errorf("change %d leaves the state Good", i)
		}
		l = append(l, s)
	}
	return l
}

func TestStatesThatAreNotGood(t *testing.T) {
	for _, s := range notGoodStates(t) {
		for thread := -1; thread <= 3; thread++ {
			for _, a := range [][]int{{1}, {0}, {2}, {5}, {6}, {8}, {2, 0}, {2, 4}, {2, 5}, {2, 6}} {
				for _, b := range [][]int{nil, {7}, {1}, {0}, {8}, {2, 12}} {
					refused(t, s, thread, toSend(a, b, 7), api.EARG)
					refused(t, s, thread, toRecv(a, b), api.EARG)
				}
			}
			refused(t, s, thread, call.Call{}, api.EARG)
			refused(t, s, thread, call.Call{Op: 13, A: way(1)}, api.EARG)
		}
	}
}
