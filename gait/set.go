package gait

import "math/bits"

// A set of limbs or of regions is a number with a bit for each member.

func has(set, member int) bool {
	return set>>member&1 == 1
}

func size(set int) int {
	return bits.OnesCount(uint(set))
}

// members lists the members of a set in ascending order.
func members(set int) []int {
	var l []int
	for i := range bits.Len(uint(set)) {
		if has(set, i) {
			l = append(l, i)
		}
	}
	return l
}
