package bar

import (
	"iter"
	"slices"

	"clinch/api"
)

// best is the first of the candidates than which none is better, and whether there is one.
func best[T any](candidates iter.Seq[T], better func(a, b T) bool) (found T, ok bool) {
	for c := range candidates {
		if !ok || better(c, found) {
			found, ok = c, true
		}
	}
	return found, ok
}

// Offcuts takes each piece from the shortest rest into which it fits.
func Offcuts(s api.Stock, rests, pieces []int) (from []int, left []int, e api.Errno) {
	if e := checked(s, pieces); e != api.OK {
		return nil, nil, e
	}
	if len(rests) > maxRests || !allBetween(rests, 0, api.MaxBar) {
		return nil, nil, api.ErrRange
	}
	left = slices.Clone(rests)
	for _, length := range pieces {
		r, ok := best(longEnough(left, length), func(a, b int) bool { return left[a] < left[b] })
		if ok {
			left[r] = max(left[r]-length-s.Kerf, 0)
		} else {
			r = -1
		}
		from = append(from, r)
	}
	return from, left, api.OK
}

// longEnough gives the indexes of the rests that are at least so long.
func longEnough(rests []int, length int) iter.Seq[int] {
	return func(yield func(int) bool) {
		for r, n := range rests {
			if n >= length && !yield(r) {
				return
			}
		}
	}
}

// haul is a set of pieces, a bit for each, and their total length.
type haul struct{ set, total int }

// Longest returns the pieces that fit into one bar with the greatest total length.
func Longest(s api.Stock, pieces []int) ([]int, api.Errno) {
	if e := checked(s, pieces); e != api.OK {
		return nil, e
	}
	longest, _ := best(hauls(s, pieces), func(a, b haul) bool { return a.total > b.total })
	return members(longest.set, len(pieces)), api.OK
}

// hauls gives the sets of pieces that fit into one bar. Their numbers descend, with the highest bit for the first piece, so that of two sets with the same total that whose list comes first is given first: neither list is a beginning of the other then.
func hauls(s api.Stock, pieces []int) iter.Seq[haul] {
	return func(yield func(haul) bool) {
		for set := 1<<len(pieces) - 1; set >= 0; set-- {
			count, total := 0, 0
			for i, length := range pieces {
				if has(set, i, len(pieces)) {
					count++
					total += length
				}
			}
			if total+count*s.Kerf <= room(s.Bar, s.Kerf) && !yield(haul{set, total}) {
				return
			}
		}
	}
}

// has says that a piece is in a set of some of n pieces.
func has(set, piece, n int) bool {
	return set>>(n-1-piece)&1 == 1
}

// members lists the pieces of a set of some of n pieces.
func members(set, n int) []int {
	var l []int
	for i := range n {
		if has(set, i, n) {
			l = append(l, i)
		}
	}
	return l
}
