package care

import (
	"iter"
	"maps"
	"slices"

	"clinch/api"
)

// those are the orders of which something holds, in the order of the list.
func (o *orders) those(holds func(api.Rule) bool) []api.Rule {
	var l []api.Rule
	for _, r := range o.list {
		if holds(r) {
			l = append(l, r)
		}
	}
	return l
}

// inForce asks of an order whether it is in force on a day.
func (o *orders) inForce(day int) func(api.Rule) bool {
	return func(r api.Rule) bool {
		end, replaced := o.ends[r.Name]
		return r.At <= day && r.From <= day && day < r.To && !(replaced && end <= day)
	}
}

// forbids asks of an order whether it forbids any of some jobs on a foot on a day.
func (o *orders) forbids(day, foot, jobs int) func(api.Rule) bool {
	inForce := o.inForce(day)
	return func(r api.Rule) bool {
		return inForce(r) && has(r.Feet, foot) && r.Jobs&jobs != 0
	}
}

func names(l []api.Rule) []string {
	var list []string
	for _, r := range l {
		list = append(list, r.Name)
	}
	return list
}

// InForce returns the names of the orders in force on a day.
func InForce(l []api.Rule, day int) ([]string, api.Errno) {
	o, e := checked(l, true, isDay(day))
	if e != api.OK {
		return nil, e
	}
	return names(o.those(o.inForce(day))), api.OK
}

// Forbidden returns the jobs that are forbidden for a foot on a day.
func Forbidden(l []api.Rule, day, foot int) (int, api.Errno) {
	o, e := checked(l, true, isDay(day) && isFoot(foot))
	if e != api.OK {
		return 0, e
	}
	return o.forbidden(day, foot), api.OK
}

func (o *orders) forbidden(day, foot int) int {
	jobs := 0
	for _, r := range o.those(o.forbids(day, foot, allJobs)) {
		jobs |= r.Jobs
	}
	return jobs
}

// Why returns the names of the orders that forbid a job on a foot on a day.
func Why(l []api.Rule, day, foot, job int) ([]string, api.Errno) {
	o, e := checked(l, true, isDay(day) && isFoot(foot) && isJob(job))
	if e != api.OK {
		return nil, e
	}
	return names(o.those(o.forbids(day, foot, job))), api.OK
}

// allowed are the jobs that are allowed on a foot on a day.
func (o *orders) allowed(c api.Consent, day, foot int) int {
	if day >= c.Until {
		return 0
	}
	return c.Jobs &^ o.forbidden(day, foot)
}

// Allowed reports whether a job is allowed on a foot on a day.
func Allowed(l []api.Rule, c api.Consent, day, foot, job int) (bool, api.Errno) {
	o, e := checked(l, ValidConsent(c), isDay(day) && isFoot(foot) && isJob(job))
	if e != api.OK {
		return false, e
	}
	return o.allowed(c, day, foot)&job != 0, api.OK
}

// Free returns the feet on which all of some jobs are allowed on a day.
func Free(l []api.Rule, c api.Consent, day, jobs int) (int, api.Errno) {
	o, e := checked(l, ValidConsent(c), isDay(day) && isSet(jobs))
	if e != api.OK {
		return 0, e
	}
	free := 0
	for foot := range feet {
		if jobs&^o.allowed(c, day, foot) == 0 {
			free |= 1 << foot
		}
	}
	return free, api.OK
}

// Next returns the first day, from one on, on which a job is allowed on a foot.
func Next(l []api.Rule, c api.Consent, from, foot, job int) (int, api.Errno) {
	o, e := checked(l, ValidConsent(c), isDay(from) && isFoot(foot) && isJob(job))
	if e != api.OK {
		return 0, e
	}
	// A consent only ends, so a job comes to be allowed where orders change.
	for day := range o.turns(from, api.MaxDay) {
		if o.allowed(c, day, foot)&job != 0 {
			return day, api.OK
		}
	}
	return 0, api.ErrNone
}

// Changes returns the days behind a first one and up to a last one on which other orders are in force than on the day before.
func Changes(l []api.Rule, from, to int) ([]int, api.Errno) {
	o, e := checked(l, true, isDay(from) && isDay(to) && from <= to)
	if e != api.OK {
		return nil, e
	}
	var changes []int
	for day := range o.turns(from+1, to) {
		// A name stands for one order, in one place: equal lists are equal sets.
		if !slices.Equal(names(o.those(o.inForce(day-1))), names(o.those(o.inForce(day)))) {
			changes = append(changes, day)
		}
	}
	return changes, api.OK
}

// turns gives the first one of some days and those on which other orders may be in force than on the day before, in ascending order.
func (o *orders) turns(first, last int) iter.Seq[int] {
	// An order is ended by another one on the day on which that was given.
	days := map[int]bool{first: true}
	for _, r := range o.list {
		for _, day := range [...]int{r.At, r.From, r.To} {
			days[day] = true
		}
	}
	return func(yield func(int) bool) {
		for _, day := range slices.Sorted(maps.Keys(days)) {
			if isBetween(day, first, last) && !yield(day) {
				return
			}
		}
	}
}
