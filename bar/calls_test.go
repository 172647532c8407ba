package bar

import (
	"slices"
	"testing"

	"clinch/api"
)

// P3.1 and P1 (R1, R4)

// everyCall calls all functions, and gives back the lists that they return.
func everyCall(s api.Stock, pieces, plan, rests []int, n [4]int) [][]int {
	ValidStock(s)
	ValidPieces(pieces)
	Fit(n[0], n[1], pieces)
	Right(s, pieces, plan)
	Uses(s, pieces, plan)
	left, _ := Rests(s, pieces, plan)
	Waste(s, pieces, plan)
	fit, _ := FirstFit(s, pieces)
	fewest, _ := Fewest(s, pieces)
	Bound(s, pieces)
	Proved(s, pieces, plan)
	numbered, _ := Numbered(plan)
	from, offcuts, _ := Offcuts(s, rests, pieces)
	longest, _ := Longest(s, pieces)
	Need(n[0], n[1], n[2])
	Weight(n[0], n[1], n[2], n[3])
	return [][]int{left, fit, fewest, numbered, from, offcuts, longest}
}

func TestEveryCallEnds(t *testing.T) {
	r := sample()
	number := func() int { return extremes[r.Intn(len(extremes))] }
	list := func(lo, hi int) []int {
		l := some(r, r.Intn(8), lo, hi)
		if len(l) > 0 && r.Intn(3) == 0 {
			l[r.Intn(len(l))] = number()
		}
		return l
	}
	for range 20000 {
		s := stock(1+r.Intn(30), r.Intn(4))
		if r.Intn(2) == 0 {
			s = stock(number(), number())
		}
		everyCall(s, list(1, 20), list(0, 3), list(0, 30), [4]int{number(), number(), number(), number()})
	}
	long := make([]int, 1000000)
	everyCall(stock(800, 5), long, long, long, [4]int{})
}

// spare is a copy of a list that has room behind it, with numbers in it.
func spare(l []int) (part, all []int) {
	all = append(slices.Clone(l), 77, 78, 79, 80)
	return all[:len(l)], all
}

func TestArgumentsStayAndResultsAreNew(t *testing.T) {
	for _, c := range []struct{ pieces, plan, rests []int }{
		{ints(300, 300, 500), ints(0, 0, 1), ints(500, 310, 0, 600)},
		{ints(100, 200, 800, 400, 395), ints(0, 0, 1, 2, 2), ints(900, 800)},
		{ints(900, 100), ints(1, 0), ints(100, 950)},
		{nil, nil, nil},
		{ints(0), ints(-1), ints(-1)},
	} {
		s := stock(800, 5)
		pieces, allPieces := spare(c.pieces)
		plan, allPlan := spare(c.plan)
		rests, allRests := spare(c.rests)
		all := [][]int{allPieces, allPlan, allRests}
		before := cloned(all)
		check := func(what string) {
			t.Helper()
			if !slices.EqualFunc(all, before, slices.Equal) {
				t.Fatal(what, before, "have become", all)
			}
		}
		results := everyCall(s, pieces, plan, rests, [4]int{1, 2, 3, 4})
		check("after the calls")
		wants := cloned(results)
		again := everyCall(s, pieces, plan, rests, [4]int{1, 2, 3, 4})
		if !slices.EqualFunc(again, wants, slices.Equal) {
			t.Fatal("the same calls return", again, "after", wants)
		}
		// What is written to one result, also behind its end, shows nowhere else.
		for i, l := range results {
			if !slices.Equal(l, wants[i]) {
				t.Fatal("results share memory:", i)
			}
			l = l[:cap(l)]
			for j := range l {
				l[j] = -99
			}
			check("after a result was changed")
		}
		if !slices.EqualFunc(again, wants, slices.Equal) {
			t.Fatal("results of two calls share memory")
		}
	}
}

func cloned(lists [][]int) [][]int {
	var out [][]int
	for _, l := range lists {
		out = append(out, slices.Clone(l))
	}
	return out
}
