package carve_test

import (
	"slices"
	"testing"

	"reeve/api"
	"reeve/call"
	"reeve/carve"
	"reeve/state"
	"reeve/thing"
)

// The lists that are handed in have marked room behind them, which stays as it is: of a state, and of ways.
func TestListsAreNotChanged(t *testing.T) {
	s := rich(t)
	slots, things := append(slices.Clone(s.Slots), slot(77, 1, 2, 3, 4)), append(slices.Clone(s.Things), thing.Thing{Type: 77})
	a, b := []int{2, 0, 77}, []int{5, 77, 78}
	marked := state.State{Geo: s.Geo, Slots: slots[:96], Things: things[:20]}
	wantSlots, wantThings := slices.Clone(slots), slices.Clone(things)
	for _, c := range []call.Call{toMake(a[:2], b[:1], 4, 0), toMake(a[:2], b[:1], 2, 4), toMake(a[:2], b[:1], 1, 0), toMake(a[:1], b[:1], 4, 0), toMake(a[:0], b[:1], 4, 0), toMake(a, b[:1], 4, 0), toMake(a[:2], b, 4, 0)} {
		carve.Do(marked, 0, c)
		carve.Do(marked, 7, c)
		for i := range 97 {
			carve.Used(marked, i)
		}
		if !slices.Equal(slots, wantSlots) || !slices.Equal(things, wantThings) {
			t.Errorf("R4: Do of %s changed the state that it was handed: %s", short(c), tell(marked))
		}
		if !slices.Equal(a, []int{2, 0, 77}) || !slices.Equal(b, []int{5, 77, 78}) {
			t.Errorf("R4: Do of %s changed a way: %d, %d", short(c), a, b)
		}
	}
}

// What was handed in, and all that was answered of it, stays as it was, whatever is made of the one or the other.
func TestAnswersStay(t *testing.T) {
	d := dice(1442695040888963407)
	for range 60 {
		all := []state.State{grow(&d)}
		kept := []state.State{copyOf(all[0])}
		for range 30 {
			s := pick(&d, all)
			thread := d.below(s.Geo.Threads)
			next, _ := carve.Do(s, thread, anyCall(&d, s, thread))
			all, kept = append(all, next), append(kept, copyOf(next))
			for i := range all {
				if !state.Same(all[i], kept[i]) {
					t.Fatalf("R4: a later call changed answer %d: %s, was %s", i, tell(all[i]), tell(kept[i]))
				}
			}
		}
	}
}

// A way that was handed in may be used anew behind the call: nothing of it is kept.
func TestWaysAreNotKept(t *testing.T) {
	a, b := []int{0}, []int{5}
	next, r := carve.Do(first(2, 64), 0, toMake(a, b, 4, 0))
	want := copyOf(next)
	a[0], b[0] = 9, 9
	if r.Err != api.OK || !state.Same(next, want) {
		t.Errorf("R4: an answer hangs on a way that was handed in: %s, was %s", tell(next), tell(want))
	}
}

// What is refused is so also with the lists that it was: nothing in them, where nothing was, and no room more.
func TestWhatIsRefusedOfNothing(t *testing.T) {
	for _, s := range []state.State{{}, {Slots: []state.Slot{}, Things: []thing.Thing{}}, {Things: make([]thing.Thing, 3)}, {Slots: make([]state.Slot, 8)}} {
		for thread := -1; thread < 2; thread++ {
			for _, c := range []call.Call{{}, toMake([]int{0}, []int{5}, 4, 0), toMake([]int{0}, []int{0}, 1, 0)} {
				next, r := carve.Do(s, thread, c)
				if r != (state.Reply{Err: api.EARG}) || !state.Same(next, s) {
					t.Errorf("P15.1: Do(%d, %s) of nothing: %+v, %s", thread, short(c), r, tell(next))
				}
			}
		}
	}
}
