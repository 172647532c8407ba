package van

import (
	"maps"

	"clinch/api"
	"clinch/bill"
	"clinch/care"
	"clinch/hoof"
)

// The limits that package api does not name.
const (
	maxRests = 64
	maxNails = 1000000
	maxEach  = 16 // nails of a shoe
	lateDays = 30
	feet     = 4
	allFeet  = 1<<feet - 1
)

// state is how things stand with a van. Its lists are replaced by new ones and never changed, so that copies may share them.
type state struct {
	config  api.Config // with the day of the beginning
	day     int
	horses  map[string]horse
	rests   []int
	nails   int
	entries []api.Entry
}

// horse is what is known of a horse, beside its name. All four feet have the same hoof.
type horse struct {
	owner   string
	hoof    api.Hoof
	orders  []api.Rule
	consent api.Consent
}

func (s *state) copied() state {
	c := *s
	c.horses = maps.Clone(s.horses)
	return c
}

// named is a horse that is known; the line is refused if there is none.
func (s *state) named(name string) horse {
	h, known := s.horses[name]
	refuseIf(!known, api.ErrName)
	return h
}

// leaves is the first day on which a horse's hoof does not keep the bounds.
func (s *state) leaves(h horse) (int, api.Errno) {
	return hoof.Leaves(h.hoof, s.config.Rates, s.config.Season, s.config.Bounds, s.day)
}

// window is the days, from today on, on which a horse may be shod.
func (s *state) window(h horse) (api.Window, api.Errno) {
	leaves, e := s.leaves(h)
	switch e {
	case api.OK:
		return api.Window{Lo: s.day, Hi: max(s.day, leaves-1)}, api.OK
	case api.ErrNone:
		return api.Window{Lo: s.day, Hi: min(s.day+api.MaxAhead, api.MaxDay)}, api.OK
	}
	return api.Window{}, e
}

// mustBeAllowed refuses a line for jobs that are not all allowed on each foot, or whose owner owes too much for too long.
func (s *state) mustBeAllowed(h horse, jobs int) {
	free := must(care.Free(h.orders, h.consent, s.day, jobs))
	refuseIf(free != allFeet, api.ErrOrder)
	late := must(bill.Late(s.entries, h.owner, s.day, lateDays))
	refuseIf(late > s.config.Credit, api.ErrMoney)
}

// charge has an owner owe the prices of jobs on each foot.
func (s *state) charge(owner string, jobs int) {
	amount := must(bill.Charge(s.config.Prices, [feet]int{jobs, jobs, jobs, jobs}))
	// An entry is never of 0: there is none for what is free.
	if amount > 0 {
		s.enter(owner, amount)
	}
}

// enter makes an entry of today.
func (s *state) enter(owner string, amount int) {
	s.entries = must(bill.Added(s.entries, api.Entry{Day: s.day, Account: owner, Amount: amount}))
}
