package bar

import (
	"math/bits"
	"slices"

	"clinch/api"
)

// Fewest returns the first of the right plans that use the fewest bars.
func Fewest(s api.Stock, pieces []int) ([]int, api.Errno) {
	if e := planned(s, pieces); e != api.OK {
		return nil, e
	}
	need := sizes(pieces, s.Kerf)
	rooms := slices.Repeat([]int{room(s.Bar, s.Kerf)}, len(pieces))
	fewest := earliest(rooms, need).bar + 1
	return firstPlan(rooms[:fewest], need), api.OK
}

// firstPlan is the first plan that cuts pieces of these sizes from bars with these rooms. There must be one. It changes the rooms.
func firstPlan(rooms, sizes []int) []int {
	plan := make([]int, len(sizes))
	var place func(i int) bool
	place = func(i int) bool {
		if i == len(sizes) {
			return true
		}
		for b, left := range rooms {
			if sizes[i] > left {
				continue
			}
			plan[i] = b
			rooms[b] = left - sizes[i]
			// Asked before each step, so that no more than the last step is ever taken back.
			if enough(rooms, sizes[i+1:]) && place(i+1) {
				return true
			}
			rooms[b] = left
		}
		return false
	}
	place(0)
	return plan
}

// enough says that pieces of these sizes can be cut from bars with these rooms.
func enough(rooms, sizes []int) bool {
	return earliest(rooms, sizes).bar < len(rooms)
}

// spot is how far bars are filled one after the other: those before this bar are done with, and so much is left of it.
type spot struct{ bar, left int }

// before says that a is the better spot: whatever can be cut behind b can be cut behind a, too.
func (a spot) before(b spot) bool {
	return a.bar < b.bar || a.bar == b.bar && a.left > b.left
}

// behind is the spot behind one more piece: in the same bar, otherwise in the next one that has room for it. If none has, its bar is the number of rooms.
func (a spot) behind(size int, rooms []int) spot {
	for size > a.left {
		a.bar++
		if a.bar >= len(rooms) {
			return spot{bar: len(rooms)}
		}
		a.left = rooms[a.bar]
	}
	a.left -= size
	return a
}

// earliest is the best spot behind all pieces. A set of pieces is a number with a bit for each; whichever piece comes last, the best spot of the others is the best one to put it behind.
func earliest(rooms, sizes []int) spot {
	spots := make([]spot, 1<<len(sizes))
	spots[0] = spot{bar: -1}
	for set := 1; set < len(spots); set++ {
		first := spot{bar: len(rooms)}
		for rest := set; rest != 0; rest &= rest - 1 {
			i := bits.TrailingZeros(uint(rest))
			if s := spots[set&^(1<<i)].behind(sizes[i], rooms); s.before(first) {
				first = s
			}
		}
		spots[set] = first
	}
	return spots[len(spots)-1]
}
