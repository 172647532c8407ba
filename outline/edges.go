package outline

import (
	"iter"
	"slices"

	"clinch/api"
)

// edges gives the two corners of each edge, beginning with that of the last corner and the first.
func edges(l []api.Point) iter.Seq2[api.Point, api.Point] {
	return func(yield func(p, q api.Point) bool) {
		for i, q := range l {
			if !yield(l[(i+len(l)-1)%len(l)], q) {
				return
			}
		}
	}
}

// within says that no coordinate is more than most away from 0.
func within(p api.Point, most int) bool {
	return p.X >= -most && p.X <= most && p.Y >= -most && p.Y <= most
}

func allWithin(l []api.Point, most int) bool {
	return !slices.ContainsFunc(l, func(p api.Point) bool { return !within(p, most) })
}

func allDifferent(l []api.Point) bool {
	for i, p := range l {
		if slices.Contains(l[:i], p) {
			return false
		}
	}
	return true
}

// simple says that edges have only the corners between them in common. The corners are all different, so that edges follow each other if one ends where the other begins.
func simple(l []api.Point) bool {
	for p, q := range edges(l) {
		for r, s := range edges(l) {
			switch {
			case p == r || p == s: // the edge itself, or one that it follows: seen from there
			case q == r:
				if side(p, q, s) == 0 && dot(from(q, p), from(q, s)) > 0 {
					return false
				}
			case meet(p, q, r, s):
				return false
			}
		}
	}
	return true
}

// from is the way from p to q.
func from(p, q api.Point) api.Point {
	return api.Point{X: q.X - p.X, Y: q.Y - p.Y}
}

func dot(a, b api.Point) int {
	return a.X*b.X + a.Y*b.Y
}

func cross(a, b api.Point) int {
	return a.X*b.Y - a.Y*b.X
}

// side is above 0 if x is to the left of the line from p to q, 0 if it is on the line, below 0 if it is to the right.
func side(p, q, x api.Point) int {
	return cross(from(p, q), from(p, x))
}

// isOn says that x is on the edge from p to q.
func isOn(p, q, x api.Point) bool {
	return side(p, q, x) == 0 && dot(from(x, p), from(x, q)) <= 0
}

// meet says that the edges from p to q and from r to s have a point in common.
func meet(p, q, r, s api.Point) bool {
	return isOn(p, q, r) || isOn(p, q, s) || isOn(r, s, p) || isOn(r, s, q) ||
		parts(p, q, r, s) && parts(r, s, p, q)
}

// parts says that the line through p and q has r and s on its two sides.
func parts(p, q, r, s api.Point) bool {
	a, b := side(p, q, r), side(p, q, s)
	return a < 0 && b > 0 || a > 0 && b < 0
}
