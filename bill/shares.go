package bill

import (
	"cmp"
	"slices"

	"clinch/api"
)

// sharing is an amount that is shared: what each gets, and what its quotient left when it was rounded down.
type sharing struct {
	shares, remainders []int
}

// compare orders two of those that share by who gets a penny first.
func (s *sharing) compare(i, j int) int {
	return cmp.Or(cmp.Compare(s.remainders[j], s.remainders[i]), cmp.Compare(i, j))
}

// Shares returns what each gets of an amount that is shared by weights.
func Shares(amount int, weights []int) ([]int, api.Errno) {
	if !isBetween(amount, 0, maxShared) || !isBetween(len(weights), 1, maxWeights) || !areBetween(weights, 0, maxWeight) {
		return nil, api.ErrRange
	}
	all := sum(weights)
	if all == 0 {
		weights = slices.Repeat([]int{1}, len(weights))
		all = len(weights)
	}
	var s sharing
	var order []int
	for i, weight := range weights {
		s.shares = append(s.shares, amount*weight/all)
		s.remainders = append(s.remainders, amount*weight%all)
		order = append(order, i)
	}
	slices.SortFunc(order, s.compare)
	// The remainders are each below all and add up to so many times all as there are pence left, so there are fewer than weights.
	for _, i := range order[:amount-sum(s.shares)] {
		s.shares[i]++
	}
	return s.shares, api.OK
}

func sum(l []int) int {
	total := 0
	for _, n := range l {
		total += n
	}
	return total
}

// IsShares reports whether a list is what each gets of an amount that is shared by weights.
func IsShares(amount int, weights, shares []int) bool {
	right, e := Shares(amount, weights)
	return e == api.OK && slices.Equal(shares, right)
}
