package find_test

import (
	"slices"
	"testing"

	"reeve/find"
	"reeve/state"
	"reeve/thing"
)

// spoil fills a list, and its spare room, with a number that is no step.
func spoil(l []int) {
	l = l[:cap(l)]
	for i := range l {
		l[i] = 99
	}
}

func TestAnswersShareNothing(t *testing.T) {
	s := several(t)
	for slot := range 96 {
		v, w := find.Ways(s, 0, slot), find.Ways(s, 0, slot)
		for i := range v {
			if slices.ContainsFunc(v[i].L[len(v[i].L):cap(v[i].L)], func(step int) bool { return step != 0 }) {
				t.Errorf("R4: something is in the spare room of a way to %d: %d", slot, v[i].L[:cap(v[i].L)])
			}
			spoil(v[i].L)
			for j := i + 1; j < len(v); j++ {
				if !slices.Equal(v[j].L, w[j].L) {
					t.Errorf("R4: two ways to %d share their memory: %d, was %d", slot, v[j].L, w[j].L)
				}
			}
		}
		if !sameWays(w, tellAll(s, 0).ways[slot]) || !sameWays(find.Ways(s, 0, slot), tellAll(s, 0).ways[slot]) {
			t.Errorf("R4: two answers share the ways to %d", slot)
		}
	}
	l, m := find.Reach(s, 0), find.Reach(s, 0)
	if slices.ContainsFunc(l[len(l):cap(l)], func(slot int) bool { return slot != 0 }) {
		t.Errorf("R4: something is in the spare room of Reach: %d", l[:cap(l)])
	}
	spoil(l)
	if want := tellAll(s, 0).reach(); !slices.Equal(m, want) || !slices.Equal(find.Reach(s, 0), want) {
		t.Errorf("R4: two answers of Reach share their memory: %d", m)
	}
}

// The lists that are handed in have marked room behind them, which stays as it is.
func TestListsAreNotChanged(t *testing.T) {
	s := several(t)
	marked := state.State{Geo: s.Geo, Slots: append(slices.Clone(s.Slots), slot(77, 1, 2, 3, 4)), Things: append(slices.Clone(s.Things), thing.Thing{Type: 77})}
	slots, things := slices.Clone(marked.Slots), slices.Clone(marked.Things)
	x := state.State{Geo: s.Geo, Slots: marked.Slots[:96], Things: marked.Things[:20]}
	for _, l := range [][]int{{0}, {6}, {2, 10}, {2, 10, 0}, {2, 0, 0}, {8}, {2, 16}, {1, 2, 3, 4}} {
		steps := append(slices.Clone(l), 77, 78)
		p := way()
		p.L = steps[:len(l)]
		find.Slot(x, 0, p)
		find.Cap(x, 0, p)
		find.Empty(x, 0, p)
		if !slices.Equal(steps, append(slices.Clone(l), 77, 78)) {
			t.Errorf("R4: the way %d was changed: %d", l, steps)
		}
	}
	for slot := range 96 {
		find.Ways(x, 0, slot)
	}
	find.Reach(x, 0)
	if !slices.Equal(marked.Slots, slots) || !slices.Equal(marked.Things, things) {
		t.Errorf("R4: a call changed the state that it was handed: %s", tell(x))
	}
	check(t, x)
}
