// Package hoof follows hooves as they grow, wear and are trimmed (layer 1, shared/doc/01-hoof.md).
package hoof

import "clinch/api"

// The ranges of numbers that package api does not name.
const (
	maxRate   = 1000
	maxSeason = 2000
	maxLo     = 1990
	maxHi     = 2000
	leastGap  = 10
	minLeast  = 1000
	maxPer    = 100000
	maxMetres = 1000000
)

// ValidHoof reports whether each length is from 0 to MaxLength.
func ValidHoof(h api.Hoof) bool {
	return wallsOf(h).between(0, api.MaxLength)
}

// ValidRates reports whether each rate is from 0 to 1,000.
func ValidRates(r api.Rates) bool {
	return ratesOf(r).between(0, maxRate)
}

// ValidSeason reports whether each number is from 0 to 2,000.
func ValidSeason(s api.Season) bool {
	for _, n := range s {
		if n < 0 || n > maxSeason {
			return false
		}
	}
	return true
}

// ValidBounds reports whether Lo, Hi, Side and Least are in their ranges.
func ValidBounds(b api.Bounds) bool {
	// Lo is looked at first, so that Lo + 10 can't overflow.
	return b.Lo >= 1 && b.Lo <= maxLo &&
		b.Hi >= b.Lo+leastGap && b.Hi <= maxHi &&
		b.Side >= 0 && b.Side <= api.MaxLength &&
		b.Least >= minLeast && b.Least <= api.MaxLength
}

// Month returns the month of a day, from 0 to 11, or -1 if the day is not in its range.
func Month(day int) int {
	if !isDay(day) {
		return -1
	}
	return monthOf(day)
}

// Share returns the sum of the season's numbers of the days from `from` to `to` - 1.
func Share(s api.Season, from, to int) (int, api.Errno) {
	if !ValidSeason(s) {
		return 0, api.ErrInvalid
	}
	if !isStretch(from, to) {
		return 0, api.ErrRange
	}
	return shareBefore(s, to) - shareBefore(s, from), api.OK
}

// Grown returns the hoof after the growth of the days from `from` to `to` - 1.
func Grown(h api.Hoof, r api.Rates, s api.Season, from, to int) (api.Hoof, api.Errno) {
	if !canGrow(h, r, s) {
		return api.Hoof{}, api.ErrInvalid
	}
	share, e := Share(s, from, to)
	if e != api.OK {
		return api.Hoof{}, e
	}
	w := wallsOf(h).plus(ratesOf(r), int64(share))
	if !w.between(0, api.MaxLength) {
		return api.Hoof{}, api.ErrLimit
	}
	return w.hoof(), api.OK
}

// Worn returns the hoof each of whose lengths is less by per * metres, but at least 0.
func Worn(h api.Hoof, per, metres int) (api.Hoof, api.Errno) {
	if !ValidHoof(h) {
		return api.Hoof{}, api.ErrInvalid
	}
	if per < 0 || per > maxPer || metres < 0 || metres > maxMetres {
		return api.Hoof{}, api.ErrRange
	}
	w := wallsOf(h).plus(allOf(int64(per)), -int64(metres))
	return w.greater(allOf(0)).hoof(), api.OK
}

// Ratio returns 1,000 * Heel / Toe, rounded down.
func Ratio(h api.Hoof) (int, api.Errno) {
	if !ValidHoof(h) {
		return 0, api.ErrInvalid
	}
	w := wallsOf(h)
	if w[toeWall] == 0 {
		return 0, api.ErrNone
	}
	return int(1000 * w[heelWall] / w[toeWall]), api.OK
}

// Keeps reports whether a hoof keeps bounds.
func Keeps(h api.Hoof, b api.Bounds) (bool, api.Errno) {
	l, e := Faults(h, b)
	return e == api.OK && len(l) == 0, e
}

// Faults names what a hoof does not keep of bounds.
func Faults(h api.Hoof, b api.Bounds) ([]string, api.Errno) {
	if !ValidHoof(h) || !ValidBounds(b) {
		return nil, api.ErrInvalid
	}
	return faults(wallsOf(h), b), api.OK
}

func faults(w walls, b api.Bounds) []string {
	heel, toe := 1000*w[heelWall], w[toeWall]
	inward := w[outWall] - w[inWall]
	side := int64(b.Side)
	var names []string
	for _, f := range [...]struct {
		name  string
		found bool
	}{
		{"back", heel < int64(b.Lo)*toe},
		{"forward", heel > int64(b.Hi)*toe},
		{"inward", inward > side},
		{"outward", -inward > side},
		{"short", !allOf(int64(b.Least)).within(w)},
	} {
		if f.found {
			names = append(names, f.name)
		}
	}
	return names
}

// Trim returns the greatest hoof that lies within h and keeps the bounds.
func Trim(h api.Hoof, b api.Bounds) (api.Hoof, api.Errno) {
	if !ValidHoof(h) || !ValidBounds(b) {
		return api.Hoof{}, api.ErrInvalid
	}
	w := wallsOf(h)
	side := int64(b.Side)
	w = w.lesser(walls{
		toeWall:  1000 * w[heelWall] / int64(b.Lo),
		heelWall: int64(b.Hi) * w[toeWall] / 1000,
		inWall:   w[outWall] + side,
		outWall:  w[inWall] + side,
	})
	if !allOf(int64(b.Least)).within(w) {
		return api.Hoof{}, api.ErrNone
	}
	return w.hoof(), api.OK
}

// Within reports whether no length of a is above that of b.
func Within(a, b api.Hoof) bool {
	return wallsOf(a).within(wallsOf(b))
}

// Taken returns what is taken away from h to come to another hoof.
func Taken(h, to api.Hoof) (api.Hoof, api.Errno) {
	if !ValidHoof(h) || !ValidHoof(to) {
		return api.Hoof{}, api.ErrInvalid
	}
	if !Within(to, h) {
		return api.Hoof{}, api.ErrNone
	}
	return wallsOf(h).plus(wallsOf(to), -1).hoof(), api.OK
}

// Leaves returns the first day from `from` on at which the growing hoof does not keep the bounds.
func Leaves(h api.Hoof, r api.Rates, s api.Season, b api.Bounds, from int) (int, api.Errno) {
	if !canGrow(h, r, s) || !ValidBounds(b) {
		return 0, api.ErrInvalid
	}
	if !isDay(from) {
		return 0, api.ErrRange
	}
	return firstDay(wallsOf(h), ratesOf(r), s, from, func(w walls) bool {
		return len(faults(w, b)) > 0
	})
}

// Reaches returns the first day from `from` on at which the growing hoof's Toe is at least toe.
func Reaches(h api.Hoof, r api.Rates, s api.Season, from, toe int) (int, api.Errno) {
	if !canGrow(h, r, s) {
		return 0, api.ErrInvalid
	}
	if !isDay(from) || toe < 0 || toe > api.MaxLength {
		return 0, api.ErrRange
	}
	return firstDay(wallsOf(h), ratesOf(r), s, from, func(w walls) bool {
		return w[toeWall] >= int64(toe)
	})
}

func canGrow(h api.Hoof, r api.Rates, s api.Season) bool {
	return ValidHoof(h) && ValidRates(r) && ValidSeason(s)
}

// Horn returns the sum of the four lengths.
func Horn(h api.Hoof) (int, api.Errno) {
	if !ValidHoof(h) {
		return 0, api.ErrInvalid
	}
	return int(wallsOf(h).sum()), api.OK
}
