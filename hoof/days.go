package hoof

import (
	"iter"

	"clinch/api"
)

const daysOfYear = 365

var daysOfMonth = [12]int{31, 28, 31, 30, 31, 30, 31, 31, 30, 31, 30, 31}

func isDay(day int) bool {
	return day >= 0 && day <= api.MaxDay
}

func isStretch(from, to int) bool {
	return isDay(from) && isDay(to) && from <= to
}

// monthOf is the month of a day that is in its range.
func monthOf(day int) int {
	rest := day % daysOfYear
	month := 0
	for rest >= daysOfMonth[month] {
		rest -= daysOfMonth[month]
		month++
	}
	return month
}

// shareBefore sums up the season's numbers of all days before a day.
func shareBefore(s api.Season, day int) int {
	years, rest := day/daysOfYear, day%daysOfYear
	sum := 0
	for month, n := range s {
		length := daysOfMonth[month]
		begun := min(rest, length)
		sum += (years*length + begun) * n
		rest -= begun
	}
	return sum
}

// daily gives each day from one to another, with what the walls are on it. It also gives walls that are too long.
func daily(w walls, rates walls, s api.Season, from, to int) iter.Seq2[int, walls] {
	return func(yield func(int, walls) bool) {
		for day := from; day <= to && yield(day, w); day++ {
			w = w.plus(rates, int64(s[monthOf(day)]))
		}
	}
}

// firstDay looks for the first day, from a day on, on which the walls are as asked.
func firstDay(w walls, rates walls, s api.Season, from int, asked func(walls) bool) (int, api.Errno) {
	last := min(from+api.MaxAhead, api.MaxDay)
	for day, v := range daily(w, rates, s, from, last) {
		if !v.between(0, api.MaxLength) {
			return 0, api.ErrLimit
		}
		if asked(v) {
			return day, api.OK
		}
	}
	return 0, api.ErrNone
}
