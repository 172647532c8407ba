package gait

import (
	"slices"

	"clinch/api"
)

func isK(k int) bool {
	return isBetween(k, 1, api.MaxRegions)
}

// mayNumb says that a block may stand in a good sequence where it numbs these regions first.
func mayNumb(first, k int) bool {
	return isBetween(size(first), 1, k)
}

// mayEnd says that a good sequence may end where these regions are numb.
func mayEnd(regions, numb, k int) bool {
	return size(everywhere(regions)&^numb) <= k
}

// Good reports whether at most k regions remain, however a horse answers to a sequence, and no block is for nothing.
func Good(regions int, blocks, given []int, k int) (bool, api.Errno) {
	if e := checkedBlocks(regions, blocks, isK(k), given); e != api.OK {
		return false, e
	}
	for _, first := range firsts(blocks, given) {
		if !mayNumb(first, k) {
			return false, api.OK
		}
	}
	return mayEnd(regions, numb(blocks, given), k), api.OK
}

// Shortest returns the first of the shortest sequences that are good for k.
func Shortest(regions int, blocks []int, k int) ([]int, api.Errno) {
	if e := checkedBlocks(regions, blocks, isK(k), nil); e != api.OK {
		return nil, e
	}
	way, ok := shortest(regions, blocks, k)
	if !ok {
		return nil, api.ErrNone
	}
	return way, api.OK
}

// shortest goes from set to set of numb regions. It comes to them in the order of their ways, shorter ones first and those of the same length as lists, so the first way to a set is the best one, and the first set that is enough has the shortest sequence.
func shortest(regions int, blocks []int, k int) ([]int, bool) {
	ways := map[int][]int{0: nil}
	reached := []int{0}
	for len(reached) > 0 {
		at := reached[0]
		reached = reached[1:]
		if mayEnd(regions, at, k) {
			return ways[at], true
		}
		for b, block := range blocks {
			next := at | block
			if _, known := ways[next]; known || !mayNumb(block&^at, k) {
				continue
			}
			ways[next] = append(slices.Clone(ways[at]), b)
			reached = append(reached, next)
		}
	}
	return nil, false
}

// Least returns the least k for which a sequence is good.
func Least(regions int, blocks []int) (int, api.Errno) {
	if e := checkedBlocks(regions, blocks, true, nil); e != api.OK {
		return 0, e
	}
	for k := 1; k < regions; k++ {
		if _, ok := shortest(regions, blocks, k); ok {
			return k, api.OK
		}
	}
	// Where all regions may remain, no block is needed.
	return regions, api.OK
}
