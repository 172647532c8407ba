package outline

import (
	"slices"

	"clinch/api"
)

// moved makes a new list of what a motion makes of each corner.
func moved(l []api.Point, motion func(api.Point) api.Point) []api.Point {
	m := make([]api.Point, 0, len(l))
	for _, p := range l {
		m = append(m, motion(p))
	}
	return m
}

// Mirrored returns the outline with X turned into -X, its corners in the opposite order from the first one on.
func Mirrored(l []api.Point) ([]api.Point, api.Errno) {
	if !Valid(l) {
		return nil, api.ErrInvalid
	}
	return mirrored(l), api.OK
}

func mirrored(l []api.Point) []api.Point {
	m := moved(l, func(p api.Point) api.Point { return api.Point{X: -p.X, Y: p.Y} })
	slices.Reverse(m[1:])
	return m
}

// Turned returns the outline turned by quarters counterclockwise.
func Turned(l []api.Point, quarters int) ([]api.Point, api.Errno) {
	if !Valid(l) {
		return nil, api.ErrInvalid
	}
	// The rest is taken before the sum, which could overflow otherwise.
	quarters = (quarters%4 + 4) % 4
	return moved(l, func(p api.Point) api.Point {
		for range quarters {
			p = api.Point{X: -p.Y, Y: p.X}
		}
		return p
	}), api.OK
}

// Shifted returns the outline with a point added to all corners.
func Shifted(l []api.Point, by api.Point) ([]api.Point, api.Errno) {
	if !Valid(l) {
		return nil, api.ErrInvalid
	}
	if !within(by, 2*api.MaxCoord) {
		return nil, api.ErrRange
	}
	m := moved(l, func(p api.Point) api.Point { return api.Point{X: p.X + by.X, Y: p.Y + by.Y} })
	if !allWithin(m, api.MaxCoord) {
		return nil, api.ErrLimit
	}
	return m, api.OK
}

// First returns the same outline beginning with its lowest corner, of several the one with the least X.
func First(l []api.Point) ([]api.Point, api.Errno) {
	if !Valid(l) {
		return nil, api.ErrInvalid
	}
	return first(l), api.OK
}

func first(l []api.Point) []api.Point {
	i := slices.Index(l, slices.MinFunc(l, lower))
	return slices.Concat(l[i:], l[:i])
}

// Alike reports whether two valid outlines have the same corners in the same order, from whichever one on.
func Alike(a, b []api.Point) bool {
	return Valid(a) && Valid(b) && alike(a, b)
}

func alike(a, b []api.Point) bool {
	return slices.Equal(first(a), first(b))
}

// Pair reports whether an outline is alike the mirrored other one.
func Pair(a, b []api.Point) (bool, api.Errno) {
	if !Valid(a) || !Valid(b) {
		return false, api.ErrInvalid
	}
	return alike(a, mirrored(b)), api.OK
}
