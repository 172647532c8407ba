package due

import (
	"cmp"
	"iter"
	"slices"
	"sort"

	"clinch/api"
)

// plan is what is to be booked, in memory of its own: its windows and places are changed while something is tried.
type plan struct {
	windows []api.Window
	places  []int
}

// newPlan is a plan, or the error of its windows and places.
func newPlan(w []api.Window, places []int) (*plan, api.Errno) {
	if !Valid(w, places) {
		return nil, api.ErrInvalid
	}
	return &plan{windows: slices.Clone(w), places: slices.Clone(places)}, api.OK
}

// newFullPlan is a plan by which all horses can be booked, or the error that there is none.
func newFullPlan(w []api.Window, places []int) (*plan, api.Errno) {
	p, e := newPlan(w, places)
	if e != api.OK {
		return nil, e
	}
	if !Full(p.booking()) {
		return nil, api.ErrNone
	}
	return p, api.OK
}

// waiting gives each day with the horses that wait on it, in the order in which they are taken. Who books horses cuts them off the slice.
func (p *plan) waiting() iter.Seq2[int, *[]int] {
	return func(yield func(int, *[]int) bool) {
		var horses []int
		for day := range p.places {
			horses = slices.DeleteFunc(horses, func(horse int) bool { return p.windows[horse].Hi < day })
			for horse, x := range p.windows {
				if x.Lo == day {
					at, _ := slices.BinarySearchFunc(horses, horse, p.compare)
					horses = slices.Insert(horses, at, horse)
				}
			}
			if !yield(day, &horses) {
				return
			}
		}
	}
}

// compare says which of two horses is taken first.
func (p *plan) compare(a, b int) int {
	return cmp.Or(cmp.Compare(p.windows[a].Hi, p.windows[b].Hi), cmp.Compare(a, b))
}

// booking books by the earliest end. No right booking books more horses: of those that can be taken on a day, it takes the ones with the fewest days left.
func (p *plan) booking() []int {
	booking := slices.Repeat([]int{none}, len(p.windows))
	for day, waiting := range p.waiting() {
		count := min(p.places[day], len(*waiting))
		for _, horse := range (*waiting)[:count] {
			booking[horse] = day
		}
		*waiting = (*waiting)[count:]
	}
	return booking
}

// booked is how many horses a booking gives a day.
func booked(booking []int) int {
	count := 0
	for _, day := range booking {
		if day != none {
			count++
		}
	}
	return count
}

// fix leaves a horse nothing but a day, or no day at all.
func (p *plan) fix(horse, day int) {
	p.windows[horse] = api.Window{Lo: day, Hi: day}
}

// whileOn asks something while a horse has nothing but a day.
func (p *plan) whileOn(horse, day int, holds func() bool) bool {
	before := p.windows[horse]
	defer func() { p.windows[horse] = before }()
	p.fix(horse, day)
	return holds()
}

// days gives the days on which a horse can be while so many horses are booked, in ascending order. So many must be the most that can be, and the horses before this one must be fixed unless that is all of them: then the booking by the earliest end takes none but fixed horses before this one when it has a single day.
func (p *plan) days(horse, count int) iter.Seq[int] {
	return func(yield func(int) bool) {
		x := p.windows[horse]
		for day := x.Lo; day <= x.Hi && day < len(p.places); day++ {
			if p.places[day] == 0 { // nothing to try
				continue
			}
			isPossible := p.whileOn(horse, day, func() bool {
				booking := p.booking()
				return booking[horse] == day && booked(booking) == count
			})
			if isPossible && !yield(day) {
				return
			}
		}
	}
}

// earliest is the first of a horse's days, or none.
func (p *plan) earliest(horse, count int) int {
	for day := range p.days(horse, count) {
		return day
	}
	return none
}

// only is the single one of a horse's days, or none if there are several.
func (p *plan) only(horse, count int) int {
	only := none
	for day := range p.days(horse, count) {
		if only != none {
			return none
		}
		only = day
	}
	return only
}

// spare is by how many the places of a day can be lessened if all horses are to be booked.
func (p *plan) spare(day int) int {
	before := p.places[day]
	defer func() { p.places[day] = before }()
	least := sort.Search(before, func(places int) bool {
		p.places[day] = places
		return Full(p.booking())
	})
	return before - least
}
