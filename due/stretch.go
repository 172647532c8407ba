package due

import (
	"slices"

	"clinch/api"
)

// TooFull reports whether more horses must be booked in a stretch of days than it has places.
func TooFull(w []api.Window, places []int, f api.Full) bool {
	if !Valid(w, places) || !isDay(f.From) || !isDay(f.To) || f.From > f.To {
		return false
	}
	horses := 0
	for _, x := range w {
		if x.Lo >= f.From && x.Hi <= f.To {
			horses++
		}
	}
	free := 0
	for day := f.From; day <= f.To && day < len(places); day++ {
		free += places[day]
	}
	return horses > free
}

// Stuck returns the first stretch that is too full, of those from where a window begins to where one ends.
func Stuck(w []api.Window, places []int) (api.Full, api.Errno) {
	if !Valid(w, places) {
		return api.Full{}, api.ErrInvalid
	}
	begins := sorted(w, func(x api.Window) int { return x.Lo })
	ends := sorted(w, func(x api.Window) int { return x.Hi })
	for _, from := range begins {
		for _, to := range ends {
			if f := (api.Full{From: from, To: to}); TooFull(w, places, f) {
				return f, api.OK
			}
		}
	}
	return api.Full{}, api.ErrNone
}

// sorted are days of windows, in ascending order.
func sorted(w []api.Window, day func(api.Window) int) []int {
	var days []int
	for _, x := range w {
		days = append(days, day(x))
	}
	slices.Sort(days)
	return days
}
