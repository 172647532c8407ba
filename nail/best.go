package nail

import (
	"slices"

	"clinch/api"
)

// none stands for the hold where there is no right choice.
const none = -1

// gain is the greatest hold that a choice can still get from a state on, none if it cannot become right.
func (b branch) gain(at state) int {
	if known, ok := b.gains[at]; ok {
		return known
	}
	most := none
	if b.isEnough(at) {
		most = 0
	}
	for i := range b.nexts(at) {
		most = max(most, b.gainWith(at, i))
	}
	b.gains[at] = most
	return most
}

// gainWith is the gain from a state on if the next nail goes into this slot.
func (b branch) gainWith(at state, slot int) int {
	later := b.gain(b.behind(at, slot))
	if later == none {
		return none
	}
	return b.slots[slot].Hold + later
}

// hold is the hold of the best choice, none if there is no right one.
func (b branch) hold() int {
	return b.gain(state{})
}

// best is the best choice. There must be a right one.
func (b branch) best() []int {
	var choice []int
	at := state{}
	for {
		gain := b.gain(at)
		// A choice comes before all those that it begins, so it ends as soon as it may and has all the hold.
		if gain == 0 && b.isEnough(at) {
			return choice
		}
		slot := b.first(at, gain)
		choice = append(choice, slot)
		at = b.behind(at, slot)
	}
}

// first is the first slot for the next nail with which there is a gain. There must be one.
func (b branch) first(at state, gain int) int {
	for i := range b.nexts(at) {
		if b.gainWith(at, i) == gain {
			return i
		}
	}
	return len(b.slots)
}

// Best returns the best choice.
func Best(n api.Nailing, l []api.Slot) ([]int, api.Errno) {
	if e := checked(n, l); e != api.OK {
		return nil, e
	}
	b := newBranch(n, l)
	if b.hold() == none {
		return nil, api.ErrNone
	}
	return b.best(), api.OK
}

// IsBest reports whether a choice is the best one.
func IsBest(n api.Nailing, l []api.Slot, choice []int) bool {
	best, e := Best(n, l)
	return e == api.OK && slices.Equal(best, choice)
}

// Most returns the greatest number of nails that a right choice has.
func Most(n api.Nailing, l []api.Slot) (int, api.Errno) {
	if e := checked(n, l); e != api.OK {
		return 0, e
	}
	// Where each nail holds 1, the hold is the number of nails.
	ones := slices.Clone(l)
	for i := range ones {
		ones[i].Hold = 1
	}
	most := newBranch(n, ones).hold()
	if most == none {
		return 0, api.ErrNone
	}
	return most, api.OK
}

// Loss returns by how much the best hold is less if a slot takes no nail.
func Loss(n api.Nailing, l []api.Slot, i int) (int, api.Errno) {
	if e := checked(n, l); e != api.OK {
		return 0, e
	}
	if !isBetween(i, 0, len(l)-1) {
		return 0, api.ErrRange
	}
	with := newBranch(n, l).hold()
	if with == none {
		return 0, api.ErrNone
	}
	others := slices.Clone(l)
	others[i].Quick = true
	without := newBranch(n, others).hold()
	if without == none {
		return 0, api.ErrState
	}
	return with - without, api.OK
}
