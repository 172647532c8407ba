package round

import (
	"iter"
	"slices"
	"sort"

	"clinch/api"
)

// day is what rounds run on: stops, roads and the minute at which they begin.
type day struct {
	stops []api.Stop
	roads [][]int
	start int
}

// newDay is a day, or the error of its stops, roads and beginning.
func newDay(stops []api.Stop, roads [][]int, start int) (day, api.Errno) {
	switch {
	case !Valid(stops, roads):
		return day{}, api.ErrInvalid
	case !isMinute(start):
		return day{}, api.ErrRange
	}
	return day{stops: stops, roads: roads, start: start}, api.OK
}

// newRun is a day on which a round runs, or the error of either.
func newRun(stops []api.Stop, roads [][]int, start int, round []int) (day, api.Errno) {
	d, e := newDay(stops, roads, start)
	if e != api.OK {
		return day{}, e
	}
	return d, checkedRound(len(stops), round)
}

// visit is what happens at a stop to which one goes from a place at a minute.
func (d day) visit(stop, from, minute int) api.Visit {
	x := d.stops[stop-1]
	arrive := minute + d.roads[from][stop]
	begin := max(arrive, x.Open)
	return api.Visit{Stop: stop, Arrive: arrive, Begin: begin, End: begin + x.Job}
}

// isLate says that a job begins too late.
func (d day) isLate(v api.Visit) bool {
	return v.Begin > d.stops[v.Stop-1].Close
}

// visits gives what happens at each stop of a round.
func (d day) visits(round []int) iter.Seq[api.Visit] {
	return func(yield func(api.Visit) bool) {
		place, minute := forge, d.start
		for _, stop := range round {
			v := d.visit(stop, place, minute)
			if !yield(v) {
				return
			}
			place, minute = stop, v.End
		}
	}
}

// isPossible says that no job of a round begins too late.
func (d day) isPossible(round []int) bool {
	for v := range d.visits(round) {
		if d.isLate(v) {
			return false
		}
	}
	return true
}

// Run returns the visits of a round, possible or not.
func Run(stops []api.Stop, roads [][]int, start int, round []int) ([]api.Visit, api.Errno) {
	d, e := newRun(stops, roads, start, round)
	if e != api.OK {
		return nil, e
	}
	return slices.Collect(d.visits(round)), api.OK
}

// Possible reports whether each job of a round begins in time.
func Possible(stops []api.Stop, roads [][]int, start int, round []int) (bool, api.Errno) {
	d, e := newRun(stops, roads, start, round)
	if e != api.OK {
		return false, e
	}
	return d.isPossible(round), api.OK
}

// End returns when a round is back at the forge.
func End(stops []api.Stop, roads [][]int, start int, round []int) (int, api.Errno) {
	d, e := newRun(stops, roads, start, round)
	if e != api.OK {
		return 0, e
	}
	end := start
	for v := range d.visits(round) {
		end = v.End + roads[v.Stop][forge]
	}
	return end, api.OK
}

// Waits returns how long a round waits for stops to open.
func Waits(stops []api.Stop, roads [][]int, start int, round []int) (int, api.Errno) {
	d, e := newRun(stops, roads, start, round)
	if e != api.OK {
		return 0, e
	}
	waits := 0
	for v := range d.visits(round) {
		waits += v.Begin - v.Arrive
	}
	return waits, api.OK
}

// Driven returns how long a round is on the road.
func Driven(roads [][]int, round []int) (int, api.Errno) {
	if !validRoads(roads) {
		return 0, api.ErrInvalid
	}
	if e := checkedRound(len(roads)-1, round); e != api.OK {
		return 0, e
	}
	driven, place := 0, forge
	for _, stop := range round {
		driven += roads[place][stop]
		place = stop
	}
	return driven + roads[place][forge], api.OK
}

// Latest returns the latest beginning at which a round is possible.
func Latest(stops []api.Stop, roads [][]int, round []int) (int, api.Errno) {
	d, e := newRun(stops, roads, 0, round)
	if e != api.OK {
		return 0, e
	}
	// Beginning later never makes a round possible that was not, so the beginnings at which it is possible come first.
	possible := sort.Search(api.MaxMinute+1, func(start int) bool {
		d.start = start
		return !d.isPossible(round)
	})
	if possible == 0 {
		return 0, api.ErrNone
	}
	return possible - 1, api.OK
}
