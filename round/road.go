package round

import (
	"slices"

	"clinch/api"
)

// Direct reports whether roads are valid, and none is longer than a way by another place.
func Direct(roads [][]int) bool {
	if !validRoads(roads) {
		return false
	}
	isDirect := true
looking:
	for from, row := range roads {
		for by := range row {
			for to, minutes := range row {
				isDirect = minutes <= roads[from][by]+roads[by][to]
				if !isDirect {
					break looking
				}
			}
		}
	}
	return isDirect
}

// Shorter returns the shortest times over all ways.
func Shorter(roads [][]int) ([][]int, api.Errno) {
	if !validRoads(roads) {
		return nil, api.ErrInvalid
	}
	var shorter [][]int
	for _, row := range roads {
		shorter = append(shorter, slices.Clone(row))
	}
	// After each place, the times are the shortest over ways by the places up to it.
	for by := range shorter {
		for _, row := range shorter {
			for to := range row {
				row[to] = min(row[to], row[by]+shorter[by][to])
			}
		}
	}
	return shorter, api.OK
}

// Without returns the stops and roads without a stop.
func Without(stops []api.Stop, roads [][]int, i int) ([]api.Stop, [][]int, api.Errno) {
	switch {
	case !Valid(stops, roads):
		return nil, nil, api.ErrInvalid
	case !isBetween(i, 1, len(stops)):
		return nil, nil, api.ErrName
	}
	var left [][]int
	for place, row := range roads {
		if place != i {
			left = append(left, without(row, i))
		}
	}
	return without(stops, i-1), left, api.OK
}

// without is a copy of a list without the thing at a place.
func without[T any](l []T, at int) []T {
	return slices.Concat(l[:at], l[at+1:])
}
