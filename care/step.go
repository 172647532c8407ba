package care

import (
	"slices"

	"clinch/api"
)

// The bounds of a case that package api does not name.
const (
	maxSteps = 100
	maxLame  = 2 // without a vet
)

// The steps of a case.
const (
	stepSeen = iota
	stepVet
	stepTreat
	stepSound
	stepLame
	stepClose
)

var words = [...]string{stepSeen: "seen", stepVet: "vet", stepTreat: "treat", stepSound: "sound", stepLame: "lame", stepClose: "close"}

// state is what a case has come to.
type state struct {
	count int // of its steps
	last  int // step, if there is one
	lame  int // since the beginning or the last vet
}

// readCase follows a case step by step, and says whether it is sound in form.
func readCase(l []string) (state, bool) {
	var c state
	for _, word := range l {
		steps := c.next()
		i := slices.IndexFunc(steps, func(step int) bool { return words[step] == word })
		if i < 0 {
			return state{}, false
		}
		c = c.with(steps[i])
	}
	return c, true
}

// next are the steps that may follow, in their order.
func (c state) next() []int {
	switch {
	case c.count == 0:
		return []int{stepSeen}
	case c.count >= maxSteps:
		return nil
	case c.lame >= maxLame:
		return []int{stepVet}
	}
	switch c.last {
	case stepSeen, stepLame:
		return []int{stepVet, stepTreat, stepClose}
	case stepVet:
		return []int{stepTreat}
	case stepTreat:
		return []int{stepSound, stepLame}
	case stepSound:
		return []int{stepClose}
	}
	return nil
}

// with is the case with a step that may follow.
func (c state) with(step int) state {
	c.count++
	c.last = step
	switch step {
	case stepVet:
		c.lame = 0
	case stepLame:
		c.lame++
	}
	return c
}

func (c state) isClosed() bool {
	return c.count > 0 && c.last == stepClose
}

// Steps returns the steps that may follow a case.
func Steps(l []string) []string {
	c, ok := readCase(l)
	if !ok {
		return nil
	}
	var list []string
	for _, step := range c.next() {
		list = append(list, words[step])
	}
	return list
}

// SoundCase reports whether each step of a case may follow those before it.
func SoundCase(l []string) bool {
	_, ok := readCase(l)
	return ok
}

// Open reports whether a case was begun and is not closed.
func Open(l []string) (bool, api.Errno) {
	c, ok := readCase(l)
	if !ok {
		return false, api.ErrInvalid
	}
	return c.count > 0 && !c.isClosed(), api.OK
}

// Shortest returns the first of the shortest lists of steps that close a case.
func Shortest(l []string) ([]string, api.Errno) {
	c, ok := readCase(l)
	if !ok {
		return nil, api.ErrInvalid
	}
	for count := range maxSteps - c.count + 1 {
		if way, ok := c.closing(count); ok {
			return way, api.OK
		}
	}
	return nil, api.ErrLimit
}

// closing is the first list of so many steps that closes a case.
func (c state) closing(count int) ([]string, bool) {
	if count == 0 {
		return nil, c.isClosed()
	}
	for _, step := range c.next() {
		if way, ok := c.with(step).closing(count - 1); ok {
			return slices.Concat([]string{words[step]}, way), true
		}
	}
	return nil, false
}
