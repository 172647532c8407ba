package gait

import (
	"iter"
	"slices"

	"clinch/api"
)

// ValidBlocks reports whether there are from 1 to MaxRegions regions and at most MaxBlocks blocks, each of which numbs some of the regions.
func ValidBlocks(regions int, blocks []int) bool {
	return isBetween(regions, 1, api.MaxRegions) && len(blocks) <= api.MaxBlocks && allBetween(blocks, 1, everywhere(regions))
}

// everywhere is the set of all regions.
func everywhere(regions int) int {
	return 1<<regions - 1
}

// checkedBlocks is the error of regions and blocks, of a number beside them, and of the blocks that are given.
func checkedBlocks(regions int, blocks []int, inRange bool, given []int) api.Errno {
	switch {
	case !ValidBlocks(regions, blocks):
		return api.ErrInvalid
	case !inRange:
		return api.ErrRange
	case !allBetween(given, 0, len(blocks)-1):
		return api.ErrName
	case anyTwice(given):
		return api.ErrDuplicate
	}
	return api.OK
}

// anyTwice says that a block is there twice. There must be such blocks.
func anyTwice(given []int) bool {
	seen := 0
	for _, b := range given {
		if has(seen, b) {
			return true
		}
		seen |= 1 << b
	}
	return false
}

// firsts gives each block that is given, with the regions that it numbs first.
func firsts(blocks, given []int) iter.Seq2[int, int] {
	return func(yield func(int, int) bool) {
		numb := 0
		for _, b := range given {
			if !yield(b, blocks[b]&^numb) {
				return
			}
			numb |= blocks[b]
		}
	}
}

// Numb returns the regions that are numb after some blocks.
func Numb(regions int, blocks, given []int) (int, api.Errno) {
	if e := checkedBlocks(regions, blocks, true, given); e != api.OK {
		return 0, e
	}
	return numb(blocks, given), api.OK
}

func numb(blocks, given []int) int {
	set := 0
	for _, b := range given {
		set |= blocks[b]
	}
	return set
}

// Answers returns what a horse with pain in a region answers to some blocks.
func Answers(regions int, blocks, given []int, region int) ([]api.Answer, api.Errno) {
	if e := checkedBlocks(regions, blocks, isBetween(region, 0, regions-1), given); e != api.OK {
		return nil, e
	}
	return answers(blocks, given, region), api.OK
}

func answers(blocks, given []int, region int) []api.Answer {
	var l []api.Answer
	for b, first := range firsts(blocks, given) {
		sound := has(first, region)
		l = append(l, api.Answer{Block: b, Sound: sound})
		if sound {
			break
		}
	}
	return l
}

// Possible returns the regions with which all answers come out as they are.
func Possible(regions int, blocks []int, l []api.Answer) ([]int, api.Errno) {
	var given []int
	for _, a := range l {
		given = append(given, a.Block)
	}
	if e := checkedBlocks(regions, blocks, true, given); e != api.OK {
		return nil, e
	}
	sound := slices.IndexFunc(l, func(a api.Answer) bool { return a.Sound })
	if sound >= 0 && sound < len(l)-1 {
		return nil, api.ErrState
	}
	var possible []int
	for r := range regions {
		if slices.Equal(answers(blocks, given, r), l) {
			possible = append(possible, r)
		}
	}
	if len(possible) == 0 {
		return nil, api.ErrNone
	}
	return possible, api.OK
}

// Classes returns what each block numbs first, and at last what is never numb.
func Classes(regions int, blocks, given []int) ([][]int, api.Errno) {
	if e := checkedBlocks(regions, blocks, true, given); e != api.OK {
		return nil, e
	}
	var classes [][]int
	for _, first := range firsts(blocks, given) {
		classes = append(classes, members(first))
	}
	never := everywhere(regions) &^ numb(blocks, given)
	return append(classes, members(never)), api.OK
}
