package bar

import (
	"cmp"
	"math"
	"slices"

	"clinch/api"
)

// planned is the error of a stock and pieces for which a plan is looked for.
func planned(s api.Stock, pieces []int) api.Errno {
	if e := checked(s, pieces); e != api.OK {
		return e
	}
	if !allBetween(pieces, 1, s.Bar) {
		return api.ErrNone
	}
	return api.OK
}

// Numbered returns a plan with its bars numbered anew in the order in which they are first used.
func Numbered(plan []int) ([]int, api.Errno) {
	if len(plan) > api.MaxPieces || !allBetween(plan, 0, math.MaxInt) {
		return nil, api.ErrRange
	}
	return numbered(plan), api.OK
}

func numbered(plan []int) []int {
	numbers := map[int]int{}
	l := make([]int, 0, len(plan))
	for _, b := range plan {
		n, known := numbers[b]
		if !known {
			n = len(numbers)
			numbers[b] = n
		}
		l = append(l, n)
	}
	return l
}

// FirstFit returns the plan of first fit.
func FirstFit(s api.Stock, pieces []int) ([]int, api.Errno) {
	if e := planned(s, pieces); e != api.OK {
		return nil, e
	}
	need := sizes(pieces, s.Kerf)
	plan := make([]int, len(pieces))
	var rooms []int
	for _, i := range longestFirst(pieces) {
		b := slices.IndexFunc(rooms, func(left int) bool { return need[i] <= left })
		if b < 0 {
			b = len(rooms)
			rooms = append(rooms, room(s.Bar, s.Kerf))
		}
		rooms[b] -= need[i]
		plan[i] = b
	}
	return numbered(plan), api.OK
}

// longestFirst is the indexes of the pieces in descending order of their length, of the same length in ascending order.
func longestFirst(pieces []int) []int {
	var order []int
	for i := range pieces {
		order = append(order, i)
	}
	slices.SortStableFunc(order, func(i, j int) int { return cmp.Compare(pieces[j], pieces[i]) })
	return order
}

// Bound returns a number of bars below which there is no right plan.
func Bound(s api.Stock, pieces []int) (int, api.Errno) {
	if e := checked(s, pieces); e != api.OK {
		return 0, e
	}
	bound := 0
	for k := range s.Bar/2 + 1 {
		bound = max(bound, boundFrom(k, s.Bar, pieces))
	}
	return bound, api.OK
}

// boundFrom leaves out the pieces that are shorter than k. None of the others fits beside a piece longer than bar - k, and no two pieces longer than half a bar fit together.
func boundFrom(k, bar int, pieces []int) int {
	bars, small, spare := 0, 0, 0
	for _, length := range pieces {
		switch {
		case length > bar-k:
			bars++
		case 2*length > bar:
			bars++
			spare += bar - length
		case length >= k:
			small += length
		}
	}
	over := max(small-spare, 0)
	return bars + (over+bar-1)/bar
}

// Proved reports whether a plan is right and uses as many bars as the bound.
func Proved(s api.Stock, pieces, plan []int) bool {
	uses, e := Uses(s, pieces, plan)
	if e != api.OK {
		return false
	}
	bound, e := Bound(s, pieces)
	return e == api.OK && uses == bound
}
