package take_test

import (
	"slices"
	"testing"

	"reeve/api"
	"reeve/call"
	"reeve/state"
	"reeve/take"
	"reeve/thing"
)

// The lists that are handed in have marked room behind them, which stays as it is: of a state, of ways, and of slots.
func TestListsAreNotChanged(t *testing.T) {
	s := rich(t)
	slots, things := append(slices.Clone(s.Slots), slot(77, 1, 2, 3, 4)), append(slices.Clone(s.Things), thing.Thing{Type: 77})
	a, l := []int{2, 3, 77}, []int{19, 3, 3, -1, 2, 10, 0, 77, 78}
	marked := state.State{Geo: s.Geo, Slots: slots[:96], Things: things[:20]}
	wantSlots, wantThings := slices.Clone(slots), slices.Clone(things)
	held := func(what string) {
		t.Helper()
		if !slices.Equal(slots, wantSlots) || !slices.Equal(things, wantThings) {
			t.Errorf("R4: %s changed the state that it was handed: %s", what, tell(marked))
		}
		if !slices.Equal(a, []int{2, 3, 77}) || !slices.Equal(l, []int{19, 3, 3, -1, 2, 10, 0, 77, 78}) {
			t.Errorf("R4: %s changed a list: %d, %d", what, a, l)
		}
	}
	for _, p := range [][]int{a, a[:2], a[:1], a[:0]} {
		for _, c := range []call.Call{toDelete(), toRevoke()} {
			c.A.L = p
			take.Do(marked, 0, c)
			take.Do(marked, 7, c)
			held("Do of " + short(c))
		}
	}
	for i := range len(l) + 1 {
		take.Empty(marked, l[:i])
		take.Empty(state.State{Geo: s.Geo, Slots: slots, Things: things[:20]}, l[:i])
		held("Empty")
	}
	for i := range 97 {
		take.Empty(marked, []int{i})
		held("Empty of one")
	}
}

// What was handed in, and all that was answered of it, stays as it was, whatever is made of the one or the other.
func TestAnswersStay(t *testing.T) {
	d := dice(1442695040888963407)
	for range 60 {
		all := []state.State{grow(&d)}
		kept := []state.State{copyOf(all[0])}
		for range 30 {
			s := pick(&d, all)
			thread := d.below(s.Geo.Threads)
			next, _ := take.Do(s, thread, anyCall(&d, s, thread))
			left, _ := take.Empty(s, anyList(&d, s))
			all, kept = append(all, next, left), append(kept, copyOf(next), copyOf(left))
			for i := range all {
				if !state.Same(all[i], kept[i]) {
					t.Fatalf("R4: a later call changed answer %d: %s, was %s", i, tell(all[i]), tell(kept[i]))
				}
			}
		}
	}
}

// A list that was handed in may be used anew behind the call: nothing of it is kept.
func TestListsAreNotKept(t *testing.T) {
	for _, op := range []int{5, 6} {
		a := []int{1}
		next, r := take.Do(first(2), 0, call.Call{Op: op, A: way(a...)})
		want := copyOf(next)
		a[0] = 9
		if r.Err != api.OK || !state.Same(next, want) {
			t.Errorf("R4: an answer of op %d hangs on a way that was handed in: %+v, %s, was %s", op, r, tell(next), tell(want))
		}
	}
	l := []int{1, 0}
	next, n := take.Empty(first(2), l)
	want := copyOf(next)
	l[0], l[1] = 9, 9
	if n != 2 || !state.Same(next, want) {
		t.Errorf("R4: an answer of Empty hangs on its list: %d, %s, was %s", n, tell(next), tell(want))
	}
}

// What is refused is so also with the lists that it was: nothing in them, where nothing was, and no room more.
func TestWhatIsRefusedOfNothing(t *testing.T) {
	for _, s := range []state.State{{}, {Slots: []state.Slot{}, Things: []thing.Thing{}}, {Things: make([]thing.Thing, 3)}, {Slots: make([]state.Slot, 8)}} {
		for i := -1; i < 2; i++ {
			for _, c := range []call.Call{{}, toDelete(0), toRevoke(0), toDelete(0, 0), toDelete()} {
				refused(t, s, i, c, api.EARG)
			}
			for _, l := range [][]int{nil, {}, {i}, {0, 1, 2}} {
				if next, n := checkEmpty(t, s, l); n != 0 || !state.Same(next, s) {
					t.Errorf("P17.1: Empty(%d) of nothing: %d, %s", l, n, tell(next))
				}
			}
		}
	}
}
