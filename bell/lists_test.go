package bell_test

import (
	"slices"
	"testing"

	"reeve/api"
	"reeve/bell"
	"reeve/call"
	"reeve/state"
	"reeve/thing"
)

// The lists that are handed in have marked room behind them, which stays as it is: of a state, and of ways.
func TestListsAreNotChanged(t *testing.T) {
	s := rich(t)
	slots, things := append(slices.Clone(s.Slots), slot(77, 1, 2, 3, 4)), append(slices.Clone(s.Things), thing.Thing{Type: 77})
	marked := state.State{Geo: s.Geo, Slots: slots[:96], Things: things[:20]}
	wantSlots, wantThings := slices.Clone(slots), slices.Clone(things)
	for _, l := range [][]int{{3, 77}, {4, 77}, {6, 77}, {0, 77}, {8, 77}, {2, 4, 77}, {2, 5, 77}, {2, 3, 0, 77}, {2, 3, 1, 77}, {2, 3, 2, 77}} {
		want, b := slices.Clone(l), []int{77, 78}
		for _, c := range []call.Call{{Op: 9}, {Op: 10}, {Op: 13}, {Op: 9, X: 1}} {
			for n := range len(l) + 1 {
				// the list itself, with what is behind it
				c.A.L, c.B.L = l[:n], b[:0]
				for thread := range 3 {
					bell.Do(marked, thread, c)
					if !slices.Equal(slots, wantSlots) || !slices.Equal(things, wantThings) {
						t.Errorf("R4: Do(%d, %s) changed the state that it was handed: %s", thread, short(c), tell(marked))
					}
					if !slices.Equal(l, want) || !slices.Equal(b, []int{77, 78}) {
						t.Errorf("R4: Do(%d, %s) changed a way: %d, %d", thread, short(c), l, b)
					}
				}
			}
		}
	}
}

// What was handed in, and all that was answered of it, stays as it was, whatever is made of the one or the other.
func TestAnswersStay(t *testing.T) {
	d := dice(1442695040888963407)
	for range 60 {
		all := []state.State{grow(&d)}
		kept := []state.State{copyOf(all[0])}
		for range 50 {
			s := pick(&d, all)
			thread := d.below(s.Geo.Threads)
			next, _ := bell.Do(s, thread, anyCall(&d, s, thread))
			all, kept = append(all, next), append(kept, copyOf(next))
			for i := range all {
				if !state.Same(all[i], kept[i]) {
					t.Fatalf("R4: a later call changed answer %d: %s, was %s", i, tell(all[i]), tell(kept[i]))
				}
			}
		}
	}
}

// A way that was handed in may be used anew behind the call: nothing of it is kept.
func TestWaysAreNotKept(t *testing.T) {
	for _, thread := range []int{0, 1} {
		s, a := rich(t), []int{2, 3, 0}
		next, r := bell.Do(s, thread, call.Call{Op: 9, A: way(a...)})
		want := copyOf(next)
		a[0], a[1], a[2] = 9, 9, 9
		if r.Err != api.OK || !state.Same(next, want) {
			t.Errorf("R4: an answer hangs on a way that was handed in: %+v, %s, was %s", r, tell(next), tell(want))
		}
		a = []int{2, 4}
		last, r := bell.Do(next, thread, call.Call{Op: 10, A: way(a...)})
		want = copyOf(last)
		a[0], a[1] = 9, 9
		if r.Err != api.OK || !state.Same(last, want) {
			t.Errorf("R4: an answer hangs on a way that was handed in: %+v, %s, was %s", r, tell(last), tell(want))
		}
	}
}

// What is refused is so also with the lists that it was: nothing in them, where nothing was, and no room more.
func TestWhatIsRefusedOfNothing(t *testing.T) {
	for _, s := range []state.State{{}, {Slots: []state.Slot{}, Things: []thing.Thing{}}, {Things: make([]thing.Thing, 3)}, {Slots: make([]state.Slot, 8)}} {
		for i := -1; i < 2; i++ {
			for _, c := range []call.Call{{}, toRing(), toPoll(), toRing(0), toPoll(0), toRing(1), toPoll(1), toRing(2, 0), toPoll(2, 0)} {
				refused(t, s, i, c, api.EARG)
			}
		}
	}
}
