package nail

import (
	"math/rand"
	"slices"
	"testing"

	"clinch/api"
)

// P4.1 and P1 (R1, R4, R7)

// results are the lists that calls return.
type results struct {
	lists [][]int
	slots [][]api.Slot
	words [][]string
}

// everyCall calls all functions.
func everyCall(n api.Nailing, a, b []api.Slot, x, y []int, number int) results {
	ValidSlots(a)
	ValidNailing(n)
	var s api.Slot
	if len(a) > 0 {
		s = a[0]
	}
	Takes(n, s)
	why, _ := Why(n, s)
	open, _ := Open(n, a)
	Right(n, a, x)
	Hold(n, a, x)
	best, _ := Best(n, a)
	IsBest(n, a, x)
	Ways(n, a)
	all, _ := All(n, a)
	Most(n, a)
	p, q, _ := Pair(n, a, b, number)
	IsPair(n, a, b, number, x, y)
	Loss(n, a, number)
	used, _ := Used(a, x)
	fresh, _ := Fresh(a)
	parsed, _ := Parse(Format(a))
	return results{
		lists: append([][]int{open, best, p, q}, all...),
		slots: [][]api.Slot{used, fresh, parsed},
		words: [][]string{why},
	}
}

func TestEveryCallEnds(t *testing.T) {
	r := sample()
	number := func() int { return extremes[r.Intn(len(extremes))] }
	slots := func() []api.Slot {
		l := someSlots(r, 8)
		if len(l) > 0 && r.Intn(3) == 0 {
			l[r.Intn(len(l))] = api.Slot{Wall: number(), Hold: number()}
		}
		return l
	}
	choice := func() []int {
		l := make([]int, r.Intn(4))
		for i := range l {
			l[i] = number()
		}
		return l
	}
	for range 10000 {
		n := someNailing(r)
		if r.Intn(3) == 0 {
			n = nailing(number(), number(), number(), number())
		}
		everyCall(n, slots(), slots(), choice(), choice(), number())
		Parse(someText(r))
	}
	long, list := make([]api.Slot, 1000000), make([]int, 1000000)
	everyCall(nailing(0, 4, 1, 0), long, long, list, list, 0)
	full := make([]api.Slot, 16)
	everyCall(nailing(0, 16, 1, 0), full, full, list, list, 16)
}

func someText(r *rand.Rand) string {
	s := make([]byte, r.Intn(30))
	for i := range s {
		s[i] = "0123456789::  boq-+\x00\xff"[r.Intn(21)]
	}
	return string(s)
}

// spare is a copy of a list that has room behind it, with something in it.
func spare[T any](l []T, filling T) (part, all []T) {
	all = append(slices.Clone(l), filling, filling, filling)
	return all[:len(l)], all
}

func TestArgumentsStayAndResultsAreNew(t *testing.T) {
	slots := holding(5, 9, 5, 4, 0, 3)
	for _, c := range []struct {
		n    api.Nailing
		a, b []api.Slot
		x, y []int
	}{
		{nailing(0, 3, 1, 70), slots, without(slots, 1, 2), ints(1, 2, 3), ints(0)},
		{nailing(2, 2, 2, 70), without(slots, 0, 3), slots, ints(1, 4), ints(0, 2)},
		{nailing(0, 16, 1, 101), slots, nil, nil, nil},
		{nailing(5, 5, 3, 0), slots, slots, ints(5), ints(5, 4)},
		{api.Nailing{}, nil, nil, nil, nil},
	} {
		filling := api.Slot{Wall: 77, Hold: 78, Quick: true}
		a, allA := spare(c.a, filling)
		b, allB := spare(c.b, filling)
		x, allX := spare(c.x, 77)
		y, allY := spare(c.y, 77)
		beforeA, beforeB, beforeX, beforeY := slices.Clone(allA), slices.Clone(allB), slices.Clone(allX), slices.Clone(allY)
		check := func(what string) {
			t.Helper()
			if !slices.Equal(allA, beforeA) || !slices.Equal(allB, beforeB) || !slices.Equal(allX, beforeX) || !slices.Equal(allY, beforeY) {
				t.Fatal(what, "the arguments have become", allA, allB, allX, allY)
			}
		}
		got := everyCall(c.n, a, b, x, y, 2)
		check("after the calls")
		lists, more, words := cloned(got.lists), cloned(got.slots), cloned(got.words)
		again := everyCall(c.n, a, b, x, y, 2)
		same := func(r results) bool {
			return slices.EqualFunc(r.lists, lists, slices.Equal) && slices.EqualFunc(r.slots, more, slices.Equal) && slices.EqualFunc(r.words, words, slices.Equal)
		}
		if !same(again) {
			t.Fatal("the same calls return", again)
		}
		// What is written to one result, also behind its end, shows nowhere else.
		overwrite(t, got.lists, lists, -99)
		overwrite(t, got.slots, more, api.Slot{Wall: -99})
		overwrite(t, got.words, words, "other")
		check("after the results were changed")
		if !same(again) {
			t.Fatal("results of two calls share memory")
		}
	}
}

func overwrite[T comparable](t *testing.T, lists, wants [][]T, filling T) {
	t.Helper()
	for i, l := range lists {
		if !slices.Equal(l, wants[i]) {
			t.Fatal("results share memory:", i)
		}
		l = l[:cap(l)]
		for j := range l {
			l[j] = filling
		}
	}
}

func cloned[T any](lists [][]T) [][]T {
	var out [][]T
	for _, l := range lists {
		out = append(out, slices.Clone(l))
	}
	return out
}
