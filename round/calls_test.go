package round

import (
	"slices"
	"strings"
	"testing"

	"clinch/api"
)

// P8.1 and P1 (R1, R4, R7)

// arguments are what functions are called with.
type arguments struct {
	trip
	start, i int
	round    []int
	text     string
}

// results are the lists that calls return.
type results struct {
	stops  [][]api.Stop
	roads  [][][]int
	lists  [][]int
	visits [][]api.Visit
	pairs  [][][2]int
}

// everyCall calls all functions.
func everyCall(a arguments) results {
	Valid(a.stops, a.roads)
	Possible(a.stops, a.roads, a.start, a.round)
	End(a.stops, a.roads, a.start, a.round)
	Waits(a.stops, a.roads, a.start, a.round)
	Driven(a.roads, a.round)
	IsBest(a.stops, a.roads, a.start, a.round)
	Latest(a.stops, a.roads, a.round)
	Direct(a.roads)
	visits, _ := Run(a.stops, a.roads, a.start, a.round)
	best, _ := Best(a.stops, a.roads, a.start)
	largest, _ := Largest(a.stops, a.roads, a.start)
	alone, _ := Alone(a.stops, a.roads, a.start)
	against, _ := Against(a.stops, a.roads, a.start)
	before, _ := Before(a.stops, a.roads, a.start)
	shorter, _ := Shorter(a.roads)
	left, leftRoads, _ := Without(a.stops, a.roads, a.i)
	parsed, parsedRoads, _, _ := Parse(Format(a.stops, a.roads))
	other, otherRoads, _, _ := Parse(a.text)
	return results{
		stops:  [][]api.Stop{left, parsed, other},
		roads:  [][][]int{shorter, leftRoads, parsedRoads, otherRoads},
		lists:  [][]int{best, largest, alone, against},
		visits: [][]api.Visit{visits},
		pairs:  [][][2]int{before},
	}
}

func TestEveryCallEnds(t *testing.T) {
	r := sample()
	some := func(most int) int {
		if r.Intn(4) == 0 {
			return extremes[r.Intn(len(extremes))]
		}
		return r.Intn(most + 1)
	}
	texts := []string{"", "\n", "0\n", "0", "0 0 0\n0 0\n0 0\n", "\xff", "\x00", " ", "9"}
	for range 10000 {
		a := arguments{trip: someTrip(r, r.Intn(5), 50), start: some(1440), i: some(5), text: texts[r.Intn(len(texts))]}
		for range r.Intn(4) {
			a.round = append(a.round, some(5))
		}
		switch r.Intn(6) {
		case 0:
			a.stops = append(a.stops, api.Stop{Open: some(1440), Close: some(1440), Job: some(600)})
		case 1:
			a.roads = append(a.roads, a.round)
		case 2:
			a.roads = a.roads[:r.Intn(len(a.roads)+1)]
		case 3:
			i := r.Intn(len(a.roads))
			a.roads[i] = a.roads[i][:r.Intn(len(a.roads[i])+1)]
		case 4:
			i, j := r.Intn(len(a.roads)), r.Intn(len(a.roads))
			a.roads[i][j] = some(600)
		}
		everyCall(a)
	}
	wide := api.Stop{Close: 1440}
	everyCall(arguments{trip: trip{alike(8, wide), even(8, 0)}, round: make([]int, 1000000), text: strings.Repeat("0 0 0\n", 10000)})
	everyCall(arguments{trip: trip{alike(1000000, wide), alike(1000000, ints(0))}, round: alike(1000000, 1), text: strings.Repeat("0 0 0\n", 1000000)})
}

// withSpare is a copy of a list that has room behind it, with something in it.
func withSpare[T any](l []T, filling T) (part, all []T) {
	all = append(slices.Clone(l), filling, filling, filling)
	return all[:len(l)], all
}

// spacious is a copy of arguments with room behind each list, and a function that has all that is in these lists.
func spacious(a arguments) (arguments, func() results) {
	var kept results
	part, allStops := withSpare(a.stops, api.Stop{Open: 77, Close: 78, Job: 79})
	round, allRound := withSpare(a.round, 55)
	roads, allRoads := withSpare(a.roads, ints(56))
	for i, row := range roads {
		var all []int
		roads[i], all = withSpare(row, 57)
		kept.lists = append(kept.lists, all)
	}
	kept.stops = append(kept.stops, allStops)
	kept.lists = append(kept.lists, allRound)
	kept.roads = append(kept.roads, allRoads)
	a.stops, a.round, a.roads = part, round, roads
	return a, func() results { return kept }
}

func TestArgumentsStayAndResultsAreNew(t *testing.T) {
	full := someTrip(sample(), 8, 300)
	for _, c := range []arguments{
		{trip: example(), i: 1, round: ints(2, 1), text: "0 5 6\n0 1\n1 0\n"},
		{trip: example(), i: 2, start: 31, round: ints(1, 2), text: "0\n"},
		{trip: trip{yards("0..10+10 0..10+10 0..3+0"), table("0 5 5 5/5 0 5 99/5 5 0 5/5 5 5 0")}, i: 3, round: ints(1, 3, 2), text: eight()},
		{trip: full, i: 8, round: ints(8, 7, 6, 5, 4, 3, 2, 1), text: eight()},
		{trip: trip{alike(7, yards("0..1440+1")[0]), even(7, 1)}, i: 7, text: "x"},
		{trip: trip{yards("9..3+0"), even(2, -1)}, i: 1, round: ints(5, 5)},
		{trip: trip{nil, table("0")}, text: "0\n"},
		{},
	} {
		a, kept := spacious(c)
		before := cloned(kept())
		check := func(what string) {
			t.Helper()
			if !same(kept(), before) {
				t.Fatal(what, "the arguments have become", kept())
			}
		}
		got := everyCall(a)
		check("after the calls")
		wants := cloned(got)
		again := everyCall(a)
		if !same(again, wants) {
			t.Fatal("the same calls return", again)
		}
		// What is written to one result, also behind its end, shows nowhere else.
		overwriteAll(t, got, wants)
		check("after the results were changed")
		if !same(again, wants) || !same(everyCall(a), wants) {
			t.Fatal("results of two calls share memory")
		}
	}
}

func overwriteAll(t *testing.T, got, wants results) {
	t.Helper()
	overwrite(t, got.stops, wants.stops, api.Stop{Open: -99})
	overwrite(t, got.lists, wants.lists, -99)
	overwrite(t, got.visits, wants.visits, api.Visit{Stop: -99})
	overwrite(t, got.pairs, wants.pairs, [2]int{-99, -99})
	for i, l := range got.roads {
		overwrite(t, l, wants.roads[i], -99)
	}
	for _, l := range got.roads {
		l = l[:cap(l)]
		for j := range l {
			l[j] = ints(-99)
		}
	}
}

func overwrite[T comparable](t *testing.T, lists, wants [][]T, filling T) {
	t.Helper()
	for i, l := range lists {
		if !slices.Equal(l, wants[i]) {
			t.Fatal("results share memory:", i)
		}
		l = l[:cap(l)]
		for j := range l {
			l[j] = filling
		}
	}
}

func same(a, b results) bool {
	return slices.EqualFunc(a.stops, b.stops, slices.Equal) && slices.EqualFunc(a.roads, b.roads, equal) && equal(a.lists, b.lists) && slices.EqualFunc(a.visits, b.visits, slices.Equal) && slices.EqualFunc(a.pairs, b.pairs, slices.Equal)
}

func cloned(r results) results {
	out := results{stops: clonedLists(r.stops), lists: clonedLists(r.lists), visits: clonedLists(r.visits), pairs: clonedLists(r.pairs)}
	for _, l := range r.roads {
		out.roads = append(out.roads, clonedLists(l))
	}
	return out
}

func clonedLists[T any](lists [][]T) [][]T {
	var out [][]T
	for _, l := range lists {
		out = append(out, slices.Clone(l))
	}
	return out
}
