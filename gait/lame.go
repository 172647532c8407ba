package gait

import "clinch/api"

// The ranges of numbers that package api does not name.
const (
	maxStrides = 1000
	maxDepth   = 100000
	maxLeast   = 100000
	maxSteps   = 5
	maxStep    = 100000
)

// What Side returns.
const (
	onLeft  = -1
	onNone  = 0
	onRight = 1
)

// Difference returns the sum of left - right.
func Difference(left, right []int) (int, api.Errno) {
	if !validDepths(left) || !validDepths(right) || len(left) != len(right) {
		return 0, api.ErrRange
	}
	sum := 0
	for i := range left {
		sum += left[i] - right[i]
	}
	return sum, api.OK
}

func validDepths(l []int) bool {
	return isBetween(len(l), 1, maxStrides) && allBetween(l, -maxDepth, maxDepth)
}

// Side returns on which side a horse is lame.
func Side(left, right []int, least int) (int, api.Errno) {
	difference, e := Difference(left, right)
	if e != api.OK || !isBetween(least, 1, maxLeast) {
		return 0, api.ErrRange
	}
	bound := len(left) * least
	switch {
	case difference <= -bound:
		return onLeft, api.OK
	case difference >= bound:
		return onRight, api.OK
	}
	return onNone, api.OK
}

// Grade returns how lame a horse is: how many of the steps the mean difference reaches.
func Grade(left, right []int, least int, steps []int) (int, api.Errno) {
	side, e := Side(left, right, least)
	if e != api.OK || !validSteps(steps) {
		return 0, api.ErrRange
	}
	if side == onNone {
		return 0, api.OK
	}
	difference, _ := Difference(left, right)
	grade := 0
	for _, step := range steps {
		// The difference times its side is above 0, and is not divided so that nothing is rounded.
		if step*len(left) <= difference*side {
			grade++
		}
	}
	return grade, api.OK
}

func validSteps(steps []int) bool {
	if !isBetween(len(steps), 1, maxSteps) {
		return false
	}
	least := 1
	for _, step := range steps {
		if !isBetween(step, least, maxStep) {
			return false
		}
		least = step + 1
	}
	return true
}
