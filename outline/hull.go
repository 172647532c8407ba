package outline

import (
	"cmp"
	"slices"

	"clinch/api"
)

// Convex reports whether the outline turns left, or goes straight on, at every corner.
func Convex(l []api.Point) (bool, api.Errno) {
	if !Valid(l) {
		return false, api.ErrInvalid
	}
	before := l[len(l)-2]
	for p, q := range edges(l) {
		if side(before, p, q) < 0 {
			return false, api.OK
		}
		before = p
	}
	return true, api.OK
}

// Hull returns the corners of the least convex outline that has all corners inside or on it.
func Hull(l []api.Point) ([]api.Point, api.Errno) {
	if !Valid(l) {
		return nil, api.ErrInvalid
	}
	sorted := slices.Clone(l)
	slices.SortFunc(sorted, lower)
	up := leftTurns(sorted)
	slices.Reverse(sorted)
	down := leftTurns(sorted)
	// Each of the two ends with the corner from which the other begins.
	return slices.Concat(up[:len(up)-1], down[:len(down)-1]), api.OK
}

// lower compares by Y, then by X.
func lower(a, b api.Point) int {
	return cmp.Or(cmp.Compare(a.Y, b.Y), cmp.Compare(a.X, b.X))
}

// leftTurns goes from the first to the last of sorted corners, past all others on their right, and turns left at each corner that it keeps.
func leftTurns(sorted []api.Point) []api.Point {
	var stack []api.Point
	for _, p := range sorted {
		for len(stack) >= 2 && side(stack[len(stack)-2], stack[len(stack)-1], p) <= 0 {
			stack = stack[:len(stack)-1]
		}
		stack = append(stack, p)
	}
	return stack
}
