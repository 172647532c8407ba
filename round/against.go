package round

import (
	"iter"
	"slices"

	"clinch/api"
)

// sets gives all sets of so many stops as ascending lists: smaller sets first, sets of a size in ascending order.
func sets(count int) iter.Seq[[]int] {
	return func(yield func([]int) bool) {
		// What waits is in this order, as each set adds those that go on from it behind all others.
		waiting := [][]int{nil}
		for len(waiting) > 0 {
			stops := waiting[0]
			waiting = waiting[1:]
			if !yield(stops) {
				return
			}
			last := 0
			if len(stops) > 0 {
				last = stops[len(stops)-1]
			}
			for stop := last + 1; stop <= count; stop++ {
				waiting = append(waiting, append(slices.Clone(stops), stop))
			}
		}
	}
}

// Against returns the smallest set of stops that no possible round joins, if there is none of all stops.
func Against(stops []api.Stop, roads [][]int, start int) ([]int, api.Errno) {
	d, e := newDay(stops, roads, start)
	if e != api.OK {
		return nil, e
	}
	joined := map[set]bool{}
	for round := range d.rounds() {
		if len(round) == len(stops) {
			return nil, api.ErrNone
		}
		joined[setOf(round)] = true
	}
	for list := range sets(len(stops)) {
		if !joined[setOf(list)] {
			return list, api.OK
		}
	}
	return nil, api.ErrNone
}

// pair is two stops of a round in their order.
type pair struct{ first, second int }

// Before returns the pairs of stops that have the same order in all possible rounds of all stops.
func Before(stops []api.Stop, roads [][]int, start int) ([][2]int, api.Errno) {
	d, e := newDay(stops, roads, start)
	if e != api.OK {
		return nil, e
	}
	seen, ok := d.pairs()
	if !ok {
		return nil, api.ErrNone
	}
	var before [][2]int
	for i := 1; i <= len(stops); i++ {
		for j := 1; j <= len(stops); j++ {
			if i != j && !seen[pair{first: j, second: i}] {
				before = append(before, [2]int{i, j})
			}
		}
	}
	return before, api.OK
}

// pairs is which stop comes before which one in possible rounds of all stops, and whether there is such a round.
func (d day) pairs() (seen map[pair]bool, ok bool) {
	seen = map[pair]bool{}
	all := len(d.stops) * (len(d.stops) - 1)
	for round := range d.rounds() {
		if len(round) < len(d.stops) {
			continue
		}
		ok = true
		for i, first := range round {
			for _, second := range round[i+1:] {
				seen[pair{first, second}] = true
			}
		}
		if len(seen) == all { // the other rounds show no more
			break
		}
	}
	return seen, ok
}
