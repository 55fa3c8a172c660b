package state_test

import (
	"slices"
	"testing"

	"reeve/geo"
	"reeve/state"
	"reeve/thing"
)

// spare puts a state's lists ahead of marked room.
func spare(s state.State) (state.State, []state.Slot, []thing.Thing) {
	slots := append(slices.Clone(s.Slots), slot(77, 1, 2, 3, 4), slot(77, 5, 6, 7, 8))
	things := append(slices.Clone(s.Things), thing.Thing{Type: 77}, thing.Thing{Type: 78})
	return state.State{Geo: s.Geo, Slots: slots[:len(s.Slots)], Things: things[:len(s.Things)]}, slots, things
}

func TestListsAreNotShared(t *testing.T) {
	s, slots, things := spare(rich())
	checkAll(t, s)
	c := state.Clone(s)
	if room := c.Slots[48:cap(c.Slots)]; slices.ContainsFunc(room, func(x state.Slot) bool { return x != (state.Slot{}) }) {
		t.Errorf("R4: something is in the spare room of a clone's slots: %v", room)
	}
	if room := c.Things[16:cap(c.Things)]; slices.ContainsFunc(room, func(x thing.Thing) bool { return x != (thing.Thing{}) }) {
		t.Errorf("R4: something is in the spare room of a clone's things: %v", room)
	}
	c.Slots, c.Things = append(c.Slots, bare()), append(c.Things, thing.Thing{Type: 5})
	if slots[48] != slot(77, 1, 2, 3, 4) || slots[49] != slot(77, 5, 6, 7, 8) || things[16].Type != 77 || things[17].Type != 78 {
		t.Errorf("R4: spare room was changed: %v, %v", slots[48:], things[16:])
	}
	f, l := state.Forest(s), state.Holders(s, 5)
	f.Up, l = f.Up[:cap(f.Up)], l[:cap(l)]
	for i := range f.Up {
		f.Up[i] = 99
	}
	for i := range l {
		l[i] = 99
	}
	if !sameTold(s, rich()) || !slices.Equal(state.Forest(s).Up, upsTold(s)) || !slices.Equal(state.Holders(s, 5), []int{10, 16, 41}) {
		t.Errorf("R4: two answers share their lists")
	}
	one, _ := state.New(geo.Plain(), 64)
	other, _ := state.New(geo.Plain(), 64)
	one.Slots, one.Things = one.Slots[:cap(one.Slots)], one.Things[:cap(one.Things)]
	for i := range one.Slots {
		one.Slots[i].Up = 7
	}
	for i := range one.Things {
		one.Things[i].Word = 7
	}
	if !sameTold(other, firstTold(geo.Plain(), 64)) {
		t.Errorf("R4: two first states share their lists: %s", tell(other))
	}
}
