package nail

import (
	"iter"
	"slices"

	"clinch/api"
)

// maxChoices is how many choices All returns at most.
const maxChoices = 10000

// branch is what the choices of valid slots depend on.
type branch struct {
	nailing api.Nailing
	slots   []api.Slot
	takers  []int
	// gains keeps what gain has found.
	gains map[state]int
}

func newBranch(n api.Nailing, l []api.Slot) branch {
	return branch{nailing: n, slots: l, takers: open(n, l), gains: map[state]int{}}
}

// state is how far a choice has come: how many nails it has, and from which slot on the next one may go.
type state struct{ nails, next int }

// isEnough says that a choice may end at a state.
func (b branch) isEnough(at state) bool {
	return at.nails >= b.nailing.Least
}

// behind is the state behind one more nail.
func (b branch) behind(at state, slot int) state {
	return state{nails: at.nails + 1, next: slot + b.nailing.Gap}
}

// nexts gives the slots where the next nail may go, in ascending order.
func (b branch) nexts(at state) iter.Seq[int] {
	return func(yield func(int) bool) {
		if at.nails >= b.nailing.Most {
			return
		}
		for _, i := range b.takers {
			if i >= at.next && !yield(i) {
				return
			}
		}
	}
}

// choices gives the right choices that begin with a choice, in the order of lists. They all lie in the same memory, so each is there only until the next one is asked for.
func (b branch) choices(choice []int, at state) iter.Seq[[]int] {
	return func(yield func([]int) bool) {
		if b.isEnough(at) && !yield(choice) {
			return
		}
		for i := range b.nexts(at) {
			for longer := range b.choices(append(choice, i), b.behind(at, i)) {
				if !yield(longer) {
					return
				}
			}
		}
	}
}

// all gives all right choices, as choices does.
func (b branch) all() iter.Seq[[]int] {
	return b.choices(make([]int, 0, len(b.slots)), state{})
}

// Ways returns how many right choices there are.
func Ways(n api.Nailing, l []api.Slot) (int, api.Errno) {
	if e := checked(n, l); e != api.OK {
		return 0, e
	}
	count := 0
	for range newBranch(n, l).all() {
		count++
	}
	return count, api.OK
}

// All returns the right choices in the order of lists.
func All(n api.Nailing, l []api.Slot) ([][]int, api.Errno) {
	if e := checked(n, l); e != api.OK {
		return nil, e
	}
	var list [][]int
	for choice := range newBranch(n, l).all() {
		if len(list) == maxChoices {
			return nil, api.ErrLimit
		}
		list = append(list, slices.Clone(choice))
	}
	return list, api.OK
}
