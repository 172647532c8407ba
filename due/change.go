package due

import (
	"slices"

	"clinch/api"
)

const (
	week     = 7 // days
	workdays = 5 // of them, from Monday on
)

// Moved returns a booking with a horse on another day.
func Moved(w []api.Window, places, booking []int, horse, day int) ([]int, api.Errno) {
	switch {
	case !Right(w, places, booking):
		return nil, api.ErrInvalid
	case !isIndex(horse, len(w)):
		return nil, api.ErrName
	case !has(w[horse], day) || !isIndex(day, len(places)):
		return nil, api.ErrRange
	}
	moved := slices.Clone(booking)
	moved[horse] = day
	// Only the places of the day can have become too few.
	if !Right(w, places, moved) {
		return nil, api.ErrState
	}
	return moved, api.OK
}

// Windows returns the windows of horses that were last shod on some days.
func Windows(last []int, least, most int) ([]api.Window, api.Errno) {
	isRight := len(last) <= api.MaxHorses && isWindow(api.Window{Lo: least, Hi: most})
	if !isRight || slices.ContainsFunc(last, func(day int) bool { return !isDay(day) }) {
		return nil, api.ErrRange
	}
	var w []api.Window
	for _, day := range last {
		w = append(w, window(day+least, day+most))
	}
	return w, api.OK
}

// window is the days from one to another, cut to MaxDay.
func window(lo, hi int) api.Window {
	return api.Window{Lo: min(lo, api.MaxDay), Hi: min(hi, api.MaxDay)}
}

// Lost returns the windows with that of a horse that lost a shoe on a day: it is due on this day or the next one.
func Lost(w []api.Window, horse, day int) ([]api.Window, api.Errno) {
	switch {
	case !validWindows(w):
		return nil, api.ErrInvalid
	case !isIndex(horse, len(w)):
		return nil, api.ErrName
	case !isDay(day):
		return nil, api.ErrRange
	}
	changed := slices.Clone(w)
	changed[horse] = window(day, day+1)
	return changed, api.OK
}

// Weekdays returns the places of days of which the first one is a weekday: none on Saturdays and Sundays.
func Weekdays(first, days, each int) ([]int, api.Errno) {
	if !isIndex(first, week) || !isBetween(days, 1, api.MaxDays) || !isBetween(each, 0, maxPlaces) {
		return nil, api.ErrRange
	}
	places := make([]int, days)
	for day := range places {
		if (first+day)%week < workdays {
			places[day] = each
		}
	}
	return places, api.OK
}
