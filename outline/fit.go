package outline

import (
	"sort"

	"clinch/api"
)

// ValidFit reports whether Line, Front and Back are in their ranges.
func ValidFit(f api.Fit) bool {
	return isLine(f.Line) &&
		f.Front >= 0 && f.Front <= api.MaxCoord &&
		f.Back >= 0 && f.Back <= api.MaxCoord
}

func isLine(line int) bool {
	return line >= -api.MaxCoord && line <= api.MaxCoord
}

// Fits reports whether a shoe fits a hoof.
func Fits(shoe, hoof []api.Point, f api.Fit) (bool, api.Errno) {
	l, e := Misfits(shoe, hoof, f)
	return e == api.OK && len(l) == 0, e
}

// Misfits lists the corners of the hoof at which a shoe does not fit.
func Misfits(shoe, hoof []api.Point, f api.Fit) ([]api.Misfit, api.Errno) {
	if !Valid(shoe) || !Valid(hoof) || !ValidFit(f) {
		return nil, api.ErrInvalid
	}
	kinds := []struct {
		name string
		at   func(p api.Point) bool
	}{
		{"outside", func(p api.Point) bool { return where(shoe, p) < 0 }},
		{"wide", func(p api.Point) bool { return !reaches(*reachAt(&f, p), square(shoe, p)) }},
	}
	var l []api.Misfit
	for i, p := range hoof {
		for _, kind := range kinds {
			if kind.at(p) {
				l = append(l, api.Misfit{Corner: i, Kind: kind.name})
				break
			}
		}
	}
	return l, api.OK
}

// reachAt is which of Front and Back counts at a corner.
func reachAt(f *api.Fit, p api.Point) *int {
	if p.Y >= f.Line {
		return &f.Front
	}
	return &f.Back
}

// reaches says that a distance with that square is at most n.
func reaches(n int, square api.Ratio) bool {
	return Compare(square, api.Ratio{N: n * n, D: 1}) <= 0
}

// Tightest returns the Fit with a Line and the least Front and the least Back with which the shoe fits.
func Tightest(shoe, hoof []api.Point, line int) (api.Fit, api.Errno) {
	if !Valid(shoe) || !Valid(hoof) {
		return api.Fit{}, api.ErrInvalid
	}
	if !isLine(line) {
		return api.Fit{}, api.ErrRange
	}
	f := api.Fit{Line: line}
	for _, p := range hoof {
		if where(shoe, p) < 0 {
			return api.Fit{}, api.ErrNone
		}
		n := reachAt(&f, p)
		*n = max(*n, leastReach(square(shoe, p)))
	}
	// This can't be: a circle around a point inside has its radius from the range of coordinates. The document asks for it all the same.
	if !ValidFit(f) {
		return api.Fit{}, api.ErrLimit
	}
	return f, api.OK
}

// leastReach is the least number that reaches a distance with that square, or MaxCoord + 1 if that is above MaxCoord.
func leastReach(square api.Ratio) int {
	return sort.Search(api.MaxCoord+1, func(n int) bool { return reaches(n, square) })
}
