package give_test

import (
	"math"
	"testing"

	"reeve/api"
	"reeve/cap"
	"reeve/state"
)

// refusedPut holds what Put must refuse against its error, in numbers: the state is as it was.
func refusedPut(t *testing.T, s state.State, from, to int, c cap.Cap, want api.Errno) {
	t.Helper()
	next, e := checkPut(t, s, from, to, c)
	if e != want || !state.Same(next, s) {
		t.Errorf("P16.1: Put(%d, %d, %+v): %d, want %d, and %s as it was", from, to, c, e, want, tell(s))
	}
}

// puts holds what Put must do: nothing but the slot is changed.
func puts(t *testing.T, s state.State, from, to int, c cap.Cap) state.State {
	t.Helper()
	next, e := checkPut(t, s, from, to, c)
	if e != 0 {
		t.Errorf("P16.1: Put(%d, %d, %+v): %d, want 0, of %s", from, to, c, e, tell(s))
	}
	alike(t, next, s, func(s *state.State) { s.Slots[to] = state.Slot{Cap: c, Up: from} })
	return next
}

// Of each slot, whole, to each slot: whether it goes well, and what is refused, by the slots alone.
func TestPutOfAllToAll(t *testing.T) {
	s := rich(t)
	for from := range 96 {
		for to := range 96 {
			c := s.Slots[from].Cap
			if c == (cap.Cap{}) {
				c = s.Slots[1].Cap
			}
			checkPut(t, s, from, to, c)
		}
	}
	for _, to := range []int{6, 7, 8, 14, 15, 27, 31, 33, 35, 37, 40, 41} {
		puts(t, s, 1, to, s.Slots[1].Cap)
		puts(t, s, 13, to, s.Slots[13].Cap)
		refusedPut(t, s, 0, to, s.Slots[0].Cap, api.ETYPE)
		refusedPut(t, s, 12, to, s.Slots[12].Cap, api.ETYPE)
		refusedPut(t, s, to, 6, s.Slots[1].Cap, api.EEMPTY)
	}
}

// All rights of all rights, of each kind: no more than from's.
func TestPutOfRights(t *testing.T) {
	within := [8][]int{{0}, {0, 1}, {0, 2}, {0, 1, 2, 3}, {0, 4}, {0, 1, 4, 5}, {0, 2, 4, 6}, {0, 1, 2, 3, 4, 5, 6, 7}}
	for kind := 2; kind <= 5; kind++ {
		for rights := range 8 {
			s := kindAt(t, kind, rights, 0)
			allowed := map[int]bool{}
			for _, x := range within[rights] {
				allowed[x] = true
			}
			for x := range 8 {
				c := cap.Cap{Type: kind, Thing: 4, Rights: x}
				if allowed[x] {
					puts(t, s, 5, 7, c)
					puts(t, s, 5, 14, c)
				} else {
					refusedPut(t, s, 5, 7, c, api.EARG)
				}
			}
		}
	}
}

// What has a badge is put with that one; what has none with any, or none.
func TestPutOfBadges(t *testing.T) {
	badges := []int{0, 1, 2, 255, 256, 65534, 65535}
	for _, kind := range []int{3, 4} {
		for _, badge := range badges {
			s := kindAt(t, kind, 3, badge)
			for _, b := range badges {
				c := cap.Cap{Type: kind, Thing: 4, Rights: 1, Badge: b}
				if badge == 0 || badge == b {
					puts(t, s, 5, 7, c)
				} else {
					refusedPut(t, s, 5, 7, c, api.EARG)
				}
			}
		}
	}
}

// Another kind, or another thing, also such as is not there, or in no slot: it is not Less.
func TestPutOfAnother(t *testing.T) {
	s := rich(t)
	for _, c := range []cap.Cap{{Type: 3, Thing: 10, Rights: 7}, {Type: 3, Thing: 10}, {Type: 3, Thing: 0}, {Type: 3, Thing: 16}, {Type: 3, Thing: 47}, {Type: 4, Thing: 1}, {Type: 5, Thing: 1}, {Type: 1, Thing: 1}, {Type: 1, Thing: 0}, {Type: 2, Thing: 1}, {Type: 2, Thing: 4, Rights: 7}, {Type: 4, Thing: 5, Rights: 7}, {Type: 5, Thing: 6}} {
		refusedPut(t, s, 1, 7, c, api.EARG)
		refusedPut(t, s, 1, 35, c, api.EARG)
	}
	for _, c := range []cap.Cap{{Type: 2, Thing: 7}, {Type: 2, Thing: 3}, {Type: 2, Thing: 16}, {Type: 3, Thing: 4}, {Type: 1, Thing: 4}, {Type: 4, Thing: 4}} {
		refusedPut(t, s, 2, 7, c, api.EARG)
	}
}

// Of what is a Room's nothing is put, whatever is to be: it is ETYPE ahead of what is not Less, or would be a ring.
func TestPutOfARooms(t *testing.T) {
	s := rich(t)
	for _, from := range []int{0, 12} {
		for _, c := range []cap.Cap{{Type: 1, Thing: 0, Rights: 7}, {Type: 1, Thing: 0}, {Type: 1, Thing: 8, Rights: 5}, {Type: 1, Thing: 8}, {Type: 1, Thing: 30}, {Type: 2, Thing: 4, Rights: 7}, {Type: 3, Thing: 1}, {Type: 4, Thing: 5, Badge: 3}, {Type: 5, Thing: 6}} {
			refusedPut(t, s, from, 7, c, api.ETYPE)
			refusedPut(t, s, from, 33, c, api.ETYPE)
			refusedPut(t, s, from, 1, c, api.ETAKEN)
			refusedPut(t, s, from, from, c, api.ETAKEN)
		}
	}
}

// A node's is not put in it, nor in what stands in it, straight or through others; elsewhere it may be.
func TestPutOfNodes(t *testing.T) {
	s := rich(t)
	for _, c := range []struct {
		from  int
		rings []int
		goes  []int
	}{
		{2, []int{27, 31, 33, 35, 36, 37, 40, 41}, []int{6, 7, 8, 14, 15}}, {10, []int{27, 33, 37, 40}, []int{6, 8}},
		{18, []int{33, 40, 41}, []int{6, 8, 27, 31, 35, 37}}, {11, []int{33, 40, 41}, []int{6, 8, 27, 31, 35, 37}}, {19, []int{35, 37}, []int{6, 8, 27, 33, 40, 41}}, {32, []int{40, 41}, []int{6, 8, 27, 33, 35, 37}},
	} {
		for x := range 8 {
			given := s.Slots[c.from].Cap
			given.Rights &= x
			for _, to := range c.rings {
				refusedPut(t, s, c.from, to, given, api.EARG)
			}
			for _, to := range c.goes {
				puts(t, s, c.from, to, given)
			}
		}
	}
	refusedPut(t, puts(t, s, 2, 6, cap.Cap{Type: 2, Thing: 4}), 6, 40, cap.Cap{Type: 2, Thing: 4}, api.EARG)
}

// Ahead of all: numbers that are no slot, a slot that no Node has, a capability that may not be, or none.
func TestPutOfWhatIsNone(t *testing.T) {
	s := rich(t)
	box := s.Slots[1].Cap
	for _, i := range append(far(), 96) {
		for _, other := range []int{0, 1, 6, 39, 95, 96, i} {
			refusedPut(t, s, i, other, box, api.EARG)
			refusedPut(t, s, other, i, box, api.EARG)
		}
	}
	for _, to := range []int{38, 39, 42, 50, 94, 95} {
		for _, from := range []int{0, 1, 2, 6, 38, 95} {
			refusedPut(t, s, from, to, box, api.EARG)
			refusedPut(t, s, from, to, cap.Cap{Type: 2, Thing: 4}, api.EARG)
		}
		refusedPut(t, s, to, 6, box, api.EEMPTY)
		refusedPut(t, s, to, 1, box, api.EEMPTY)
	}
	for _, c := range []cap.Cap{
		{}, {Type: 0, Thing: 1}, {Rights: 1}, {Badge: 1}, {Type: 6, Thing: 1}, {Type: -1, Thing: 1}, {Type: 3 + 1<<32, Thing: 1}, {Type: 3, Thing: 48}, {Type: 3, Thing: -1}, {Type: 3, Thing: math.MaxInt}, {Type: 3, Thing: 1 + 1<<32},
		{Type: 3, Thing: 1, Rights: 8}, {Type: 3, Thing: 1, Rights: -1}, {Type: 3, Thing: 1, Rights: 1 << 32}, {Type: 3, Thing: 1, Badge: -1}, {Type: 3, Thing: 1, Badge: 65536}, {Type: 3, Thing: 1, Badge: 9 + 1<<32}, {Type: 2, Thing: 4, Badge: 1}, {Type: 5, Thing: 6, Badge: 1}, {Type: 1, Thing: 0, Badge: 1},
	} {
		for _, from := range []int{0, 1, 2, 5, 6, 95} {
			for _, to := range []int{1, 6, 27, 33} {
				refusedPut(t, s, from, to, c, api.EARG)
			}
		}
	}
}

// Of two errors at once, the one that the chapter names first.
func TestWhichErrorOfPutIsFirst(t *testing.T) {
	s := rich(t)
	box, node, bell := s.Slots[1].Cap, s.Slots[2].Cap, s.Slots[3].Cap
	for _, c := range []struct {
		name     string
		from, to int
		c        cap.Cap
		want     api.Errno
	}{
		{"no Node's; nothing in from", 6, 95, box, api.EARG}, {"no Node's; a Room's", 0, 95, s.Slots[0].Cap, api.EARG}, {"no slot; nothing in from", 6, 96, box, api.EARG}, {"no slot; taken", -1, 1, box, api.EARG},
		{"may not be; nothing in from", 6, 7, cap.Cap{Type: 3, Thing: 1, Rights: 8}, api.EARG}, {"may not be; taken", 1, 2, cap.Cap{Type: 3, Thing: 1, Rights: 8}, api.EARG}, {"may not be; a Room's", 0, 7, cap.Cap{Type: 1, Badge: 1}, api.EARG},
		{"none; nothing in from", 6, 7, cap.Cap{}, api.EARG}, {"none; taken", 1, 2, cap.Cap{}, api.EARG}, {"none; a Room's", 0, 7, cap.Cap{}, api.EARG},
		{"nothing in from; taken", 6, 1, box, api.EEMPTY}, {"nothing in from; a ring", 6, 27, node, api.EEMPTY}, {"nothing in from; it is to", 6, 6, box, api.EEMPTY},
		{"taken; a Room's", 0, 1, s.Slots[0].Cap, api.ETAKEN}, {"taken; it is from", 1, 1, box, api.ETAKEN}, {"taken; another", 1, 2, bell, api.ETAKEN}, {"taken; a ring", 2, 17, node, api.ETAKEN}, {"taken; more rights", 16, 17, cap.Cap{Type: 3, Thing: 1, Rights: 3, Badge: 9}, api.ETAKEN},
		{"a Room's; another", 0, 6, box, api.ETYPE}, {"a Room's; more rights", 12, 6, cap.Cap{Type: 1, Thing: 8, Rights: 7}, api.ETYPE}, {"a Room's; a ring", 0, 27, node, api.ETYPE},
		{"another; a ring", 1, 27, node, api.EARG}, {"more rights; a ring", 10, 27, node, api.EARG},
	} {
		if l := broken(ofPut(), putting{s, c.from, c.to, c.c, true}); len(l) < 2 && c.name != "nothing in from; it is to" && c.name != "taken; it is from" {
			t.Errorf("of %q just %d hold", c.name, l)
		}
		refusedPut(t, s, c.from, c.to, c.c, c.want)
	}
}

func TestPutOfStatesThatAreNotGood(t *testing.T) {
	for _, s := range notGoodStates(t) {
		for _, from := range []int{0, 1, 2, 5, 6, 95, 96, -1} {
			for _, to := range []int{6, 7, 1, 27, 95, 96, -1} {
				for _, c := range []cap.Cap{{}, {Type: 3, Thing: 1}, {Type: 2, Thing: 4, Rights: 7}, {Type: 1}, {Type: 9}} {
					refusedPut(t, s, from, to, c, api.EARG)
				}
			}
		}
	}
}
