package mail_test

import (
	"slices"
	"testing"

	"reeve/api"
	"reeve/call"
	"reeve/mail"
	"reeve/state"
	"reeve/thing"
)

// The lists that are handed in have marked room behind them, which stays as it is: of a state, and of ways.
func TestListsAreNotChanged(t *testing.T) {
	s := rich(t)
	slots, things := append(slices.Clone(s.Slots), slot(77, 1, 2, 3, 4)), append(slices.Clone(s.Things), thing.Thing{Type: 77})
	a, b := []int{2, 6, 77}, []int{7, 77, 78}
	marked := state.State{Geo: s.Geo, Slots: slots[:96], Things: things[:20]}
	wantSlots, wantThings := slices.Clone(slots), slices.Clone(things)
	held := func(what string) {
		t.Helper()
		if !slices.Equal(slots, wantSlots) || !slices.Equal(things, wantThings) {
			t.Errorf("R4: %s changed the state that it was handed: %s", what, tell(marked))
		}
		if !slices.Equal(a, []int{2, 6, 77}) || !slices.Equal(b, []int{7, 77, 78}) {
			t.Errorf("R4: %s changed a way: %d, %d", what, a, b)
		}
	}
	one, own := []int{1, 77}, []int{2, 4, 77}
	for _, l := range [][2][]int{{a[:2], b[:1]}, {a[:1], b[:1]}, {a[:0], b[:1]}, {a[:2], b[:0]}, {a, b[:1]}, {a[:2], b}, {one[:1], one[:1]}, {one[:1], nil}, {one[:1], a[:2]}, {own[:2], own[:2]}, {own[:2], b[:0]}} {
		for _, c := range []call.Call{toSend(nil, nil, 6), toRecv(nil, nil)} {
			// the lists themselves, with what is behind them
			c.A.L, c.B.L = l[0], l[1]
			for thread := range 3 {
				mail.Do(marked, thread, c)
				held("Do of " + short(c))
			}
		}
	}
	if one[1] != 77 || own[2] != 77 || one[0] != 1 || own[0] != 2 || own[1] != 4 {
		t.Errorf("R4: Do changed a way: %d, %d", one, own)
	}
}

// What was handed in, and all that was answered of it, stays as it was, whatever is made of the one or the other.
func TestAnswersStay(t *testing.T) {
	d := dice(1442695040888963407)
	for range 60 {
		all := []state.State{grow(&d)}
		kept := []state.State{copyOf(all[0])}
		for range 50 {
			s := pick(&d, all)
			thread := d.below(s.Geo.Threads)
			next, _ := mail.Do(s, thread, anyCall(&d, s, thread))
			all, kept = append(all, next), append(kept, copyOf(next))
			for i := range all {
				if !state.Same(all[i], kept[i]) {
					t.Fatalf("R4: a later call changed answer %d: %s, was %s", i, tell(all[i]), tell(kept[i]))
				}
			}
		}
	}
}

// A way that was handed in may be used anew behind the call: nothing of it is kept.
func TestWaysAreNotKept(t *testing.T) {
	for _, thread := range []int{0, 1} {
		a, b := []int{1}, []int{1}
		next, r := mail.Do(first(2), thread, call.Call{Op: 7, A: way(a...), B: way(b...), W: 4})
		want := copyOf(next)
		a[0], b[0] = 9, 9
		if r.Err != api.OK || !state.Same(next, want) {
			t.Errorf("R4: an answer hangs on a way that was handed in: %+v, %s, was %s", r, tell(next), tell(want))
		}
		a, b = []int{1}, []int{5}
		last, r := mail.Do(next, thread, call.Call{Op: 8, A: way(a...), B: way(b...)})
		want = copyOf(last)
		a[0], b[0] = 9, 9
		if r.Err != api.OK || !state.Same(last, want) {
			t.Errorf("R4: an answer hangs on a way that was handed in: %+v, %s, was %s", r, tell(last), tell(want))
		}
	}
}

// What is refused is so also with the lists that it was: nothing in them, where nothing was, and no room more.
func TestWhatIsRefusedOfNothing(t *testing.T) {
	for _, s := range []state.State{{}, {Slots: []state.Slot{}, Things: []thing.Thing{}}, {Things: make([]thing.Thing, 3)}, {Slots: make([]state.Slot, 8)}} {
		for i := -1; i < 2; i++ {
			for _, c := range []call.Call{{}, toSend([]int{1}, nil, 5), toSend([]int{1}, []int{1}, 5), toRecv([]int{1}, nil), toRecv([]int{0}, []int{5}), toRecv([]int{0}, []int{0})} {
				refused(t, s, i, c, api.EARG)
			}
		}
	}
}
