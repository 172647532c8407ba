package nail

import (
	"cmp"
	"slices"

	"clinch/api"
)

// pair is a choice for each of two branches, and their hold together.
type pair struct {
	x, y []int
	hold int
}

// before says that a is the better pair, or as good as b and comes first.
func (a pair) before(b pair) bool {
	return cmp.Or(cmp.Compare(b.hold, a.hold), slices.Compare(a.x, b.x), slices.Compare(a.y, b.y)) < 0
}

// isEven says that the lengths of the choices differ by at most so much.
func (a pair) isEven(most int) bool {
	return isBetween(len(a.x)-len(a.y), -most, most)
}

// Pair returns the best pair of two branches.
func Pair(n api.Nailing, a, b []api.Slot, even int) (x, y []int, e api.Errno) {
	if !ValidNailing(n) || !ValidSlots(a) || !ValidSlots(b) {
		return nil, nil, api.ErrInvalid
	}
	if !isBetween(even, 0, api.MaxSlots) {
		return nil, nil, api.ErrRange
	}
	best := pair{hold: none}
	seconds := bestByLength(n, b)
	for _, p := range bestByLength(n, a) {
		for _, q := range seconds {
			both := pair{x: p.best(), y: q.best(), hold: p.hold() + q.hold()}
			if both.isEven(even) && both.before(best) {
				best = both
			}
		}
	}
	if best.hold == none {
		return nil, nil, api.ErrNone
	}
	return best.x, best.y, api.OK
}

// bestByLength is a branch for each number of nails that right choices have, which asks for just so many. No other choices can be in the best pair: with the best one of the same length it would hold more, or come earlier.
func bestByLength(n api.Nailing, l []api.Slot) []branch {
	var list []branch
	for nails := n.Least; nails <= n.Most; nails++ {
		b := newBranch(api.Nailing{Least: nails, Most: nails, Gap: n.Gap, Wall: n.Wall}, l)
		if b.hold() != none {
			list = append(list, b)
		}
	}
	return list
}

// IsPair reports whether two choices are the best pair.
func IsPair(n api.Nailing, a, b []api.Slot, even int, x, y []int) bool {
	bestX, bestY, e := Pair(n, a, b, even)
	return e == api.OK && slices.Equal(bestX, x) && slices.Equal(bestY, y)
}
