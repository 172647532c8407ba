package round

import (
	"iter"
	"slices"

	"clinch/api"
)

// rounds gives all possible rounds with their ends, in ascending order. Who keeps a round copies it.
func (d day) rounds() iter.Seq2[[]int, int] {
	return func(yield func([]int, int) bool) {
		round := make([]int, 0, len(d.stops))
		var try func(place, minute int, seen set) bool
		try = func(place, minute int, seen set) bool {
			if !yield(round, minute+d.roads[place][forge]) {
				return false
			}
			for stop := 1; stop <= len(d.stops); stop++ {
				if seen.has(stop) {
					continue
				}
				v := d.visit(stop, place, minute)
				if d.isLate(v) { // no round that goes on from here is possible
					continue
				}
				round = append(round, stop)
				if !try(stop, v.End, seen.with(stop)) {
					return false
				}
				round = round[:len(round)-1]
			}
			return true
		}
		try(forge, d.start, 0)
	}
}

// Best returns the possible round of all stops that ends earliest.
func Best(stops []api.Stop, roads [][]int, start int) ([]int, api.Errno) {
	largest, e := Largest(stops, roads, start)
	if e != api.OK {
		return nil, e
	}
	if len(largest) < len(stops) {
		return nil, api.ErrNone
	}
	return largest, api.OK
}

// IsBest reports whether a round is the best one.
func IsBest(stops []api.Stop, roads [][]int, start int, round []int) bool {
	best, e := Best(stops, roads, start)
	return e == api.OK && slices.Equal(best, round)
}

// Largest returns the possible round with the most stops, of several the one that ends earliest.
func Largest(stops []api.Stop, roads [][]int, start int) ([]int, api.Errno) {
	d, e := newDay(stops, roads, start)
	if e != api.OK {
		return nil, e
	}
	var largest []int
	earliest := start
	for round, end := range d.rounds() {
		if len(round) > len(largest) || len(round) == len(largest) && end < earliest {
			largest, earliest = slices.Clone(round), end
		}
	}
	return largest, api.OK
}

// Alone returns the stops that are not even possible as the only one of a round.
func Alone(stops []api.Stop, roads [][]int, start int) ([]int, api.Errno) {
	d, e := newDay(stops, roads, start)
	if e != api.OK {
		return nil, e
	}
	var alone []int
	for stop := 1; stop <= len(stops); stop++ {
		if !d.isPossible([]int{stop}) {
			alone = append(alone, stop)
		}
	}
	return alone, api.OK
}
