package due

import "clinch/api"

// Book returns the full booking by the earliest end.
func Book(w []api.Window, places []int) ([]int, api.Errno) {
	p, e := newFullPlan(w, places)
	if e != api.OK {
		return nil, e
	}
	return p.booking(), api.OK
}

// Most returns the booking with the most horses, of several the one that has the first horse on the earliest day, then the second, and so on.
func Most(w []api.Window, places []int) ([]int, api.Errno) {
	p, e := newPlan(w, places)
	if e != api.OK {
		return nil, e
	}
	count := booked(p.booking())
	for horse := range p.windows {
		p.fix(horse, p.earliest(horse, count))
	}
	return p.booking(), api.OK
}

// Missed returns how many horses can't be booked, however few that are.
func Missed(w []api.Window, places []int) (int, api.Errno) {
	p, e := newPlan(w, places)
	if e != api.OK {
		return 0, e
	}
	return len(w) - booked(p.booking()), api.OK
}

// Earliest returns the earliest day on which a horse can be in a full booking.
func Earliest(w []api.Window, places []int, horse int) (int, api.Errno) {
	if Valid(w, places) && !isIndex(horse, len(w)) {
		return 0, api.ErrName
	}
	p, e := newFullPlan(w, places)
	if e != api.OK {
		return 0, e
	}
	return p.earliest(horse, len(w)), api.OK
}

// Forced returns for each horse the only day on which it can be in a full booking, or -1 if there are several.
func Forced(w []api.Window, places []int) ([]int, api.Errno) {
	p, e := newFullPlan(w, places)
	if e != api.OK {
		return nil, e
	}
	forced := make([]int, len(w))
	for horse := range forced {
		forced[horse] = p.only(horse, len(w))
	}
	return forced, api.OK
}

// Spare returns for each day by how many its places can be lessened if there is to be a full booking.
func Spare(w []api.Window, places []int) ([]int, api.Errno) {
	p, e := newFullPlan(w, places)
	if e != api.OK {
		return nil, e
	}
	spare := make([]int, len(places))
	for day := range spare {
		spare[day] = p.spare(day)
	}
	return spare, api.OK
}
