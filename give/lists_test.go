package give_test

import (
	"slices"
	"testing"

	"reeve/api"
	"reeve/call"
	"reeve/cap"
	"reeve/give"
	"reeve/state"
	"reeve/thing"
)

// The lists that are handed in have marked room behind them, which stays as it is: of a state, and of ways.
func TestListsAreNotChanged(t *testing.T) {
	s := rich(t)
	slots, things := append(slices.Clone(s.Slots), slot(77, 1, 2, 3, 4)), append(slices.Clone(s.Things), thing.Thing{Type: 77})
	a, b := []int{2, 9, 77}, []int{7, 77, 78}
	marked := state.State{Geo: s.Geo, Slots: slots[:96], Things: things[:20]}
	wantSlots, wantThings := slices.Clone(slots), slices.Clone(things)
	held := func(what string) {
		t.Helper()
		if !slices.Equal(slots, wantSlots) || !slices.Equal(things, wantThings) {
			t.Errorf("R4: %s changed the state that it was handed: %s", what, tell(marked))
		}
		if !slices.Equal(a, []int{2, 9, 77}) || !slices.Equal(b, []int{7, 77, 78}) {
			t.Errorf("R4: %s changed a way: %d, %d", what, a, b)
		}
	}
	for _, l := range [][2][]int{{a[:2], b[:1]}, {a[:1], b[:1]}, {a[:0], b[:1]}, {a[:2], b[:0]}, {a, b[:1]}, {a[:2], b}, {a[:1], a[:2]}} {
		for _, c := range []call.Call{toCopy(l[0], l[1], 7), toMint(l[0], l[1], 7, 1), toMove(l[0], l[1])} {
			give.Do(marked, 0, c)
			give.Do(marked, 7, c)
			held("Do of " + short(c))
		}
	}
	for from := range 97 {
		give.Put(marked, from, 7, s.Slots[1].Cap)
		give.Put(marked, 1, from, s.Slots[1].Cap)
		held("Put")
	}
}

// What was handed in, and all that was answered of it, stays as it was, whatever is made of the one or the other.
func TestAnswersStay(t *testing.T) {
	d := dice(1442695040888963407)
	for range 60 {
		all := []state.State{grow(&d)}
		kept := []state.State{copyOf(all[0])}
		for range 30 {
			s := pick(&d, all)
			thread := d.below(s.Geo.Threads)
			next, _ := give.Do(s, thread, anyCall(&d, s, thread))
			p := anyPut(&d, s)
			put, _ := give.Put(s, p.from, p.to, p.c)
			all, kept = append(all, next, put), append(kept, copyOf(next), copyOf(put))
			for i := range all {
				if !state.Same(all[i], kept[i]) {
					t.Fatalf("R4: a later call changed answer %d: %s, was %s", i, tell(all[i]), tell(kept[i]))
				}
			}
		}
	}
}

// A way that was handed in may be used anew behind the call: nothing of it is kept.
func TestWaysAreNotKept(t *testing.T) {
	for _, op := range []int{2, 3, 4} {
		a, b := []int{1}, []int{5}
		next, r := give.Do(first(2), 0, call.Call{Op: op, A: way(a...), B: way(b...), Y: op % 2})
		want := copyOf(next)
		a[0], b[0] = 9, 9
		if r.Err != api.OK || !state.Same(next, want) {
			t.Errorf("R4: an answer of op %d hangs on a way that was handed in: %+v, %s, was %s", op, r, tell(next), tell(want))
		}
	}
}

// What is refused is so also with the lists that it was: nothing in them, where nothing was, and no room more.
func TestWhatIsRefusedOfNothing(t *testing.T) {
	for _, s := range []state.State{{}, {Slots: []state.Slot{}, Things: []thing.Thing{}}, {Things: make([]thing.Thing, 3)}, {Slots: make([]state.Slot, 8)}} {
		for i := -1; i < 2; i++ {
			for _, c := range []call.Call{{}, toCopy([]int{0}, []int{5}, 7), toMint([]int{0}, []int{5}, 7, 1), toMove([]int{0}, []int{5}), toMove([]int{0}, []int{0})} {
				refused(t, s, i, c, api.EARG)
			}
			for _, c := range []cap.Cap{{}, {Type: 3, Thing: 1, Rights: 7}, {Type: 2}} {
				refusedPut(t, s, 0, i, c, api.EARG)
				refusedPut(t, s, i, 0, c, api.EARG)
			}
		}
	}
}
