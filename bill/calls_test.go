package bill

import (
	"slices"
	"strings"
	"testing"

	"clinch/api"
)

// P9.1 and P1 (R1, R4, R7)

// arguments are what functions are called with.
type arguments struct {
	prices, feet                    [4]int
	amount, t                       int
	weights, shares                 []int
	entries, others                 []api.Entry
	entry                           api.Entry
	name, text                      string
	day, days, from, to, i, reverse int
}

// results are the lists that calls return.
type results struct {
	entries [][]api.Entry
	items   [][]api.Item
	numbers [][]int
	names   [][]string
}

// everyCall calls all functions.
func everyCall(a arguments) results {
	Name(a.name)
	ValidPrices(a.prices)
	Charge(a.prices, a.feet)
	Tax(a.amount, a.t)
	IsShares(a.amount, a.weights, a.shares)
	Valid(a.entries)
	Balance(a.entries, a.name, a.day)
	Ahead(a.entries, a.name, a.day)
	Late(a.entries, a.name, a.day, a.days)
	Statement(a.entries, a.name, a.from, a.to)
	Clears(a.entries, a.name)
	shares, _ := Shares(a.amount, a.weights)
	names, _ := Accounts(a.entries)
	items, _ := Items(a.entries, a.name, a.day)
	own, _ := Of(a.entries, a.name)
	added, _ := Added(a.entries, a.entry)
	merged, _ := Merged(a.entries, a.others)
	same, _ := Merged(a.entries, nil)
	reversed, _ := Reversed(a.entries, a.i, a.reverse)
	parsed, _, _ := Parse(Format(a.entries))
	other, _, _ := Parse(a.text)
	return results{
		entries: [][]api.Entry{own, added, merged, same, reversed, parsed, other},
		items:   [][]api.Item{items},
		numbers: [][]int{shares},
		names:   [][]string{names},
	}
}

func TestEveryCallEnds(t *testing.T) {
	r := sample()
	some := func(most int) int {
		if r.Intn(4) == 0 {
			return extremes[r.Intn(len(extremes))]
		}
		return r.Intn(most + 1)
	}
	names := []string{"", "ann", "bob", "cy_1", "Ann", "\xff", "\x00", "\n", " "}
	texts := []string{"", "\n", "0 ann 1\n", "0 ann 1", "0 ann 0\n", "1 ann 1\n0 ann 1\n", "\xff", "\x00", " ", "9"}
	for range 20000 {
		a := arguments{amount: some(1000), t: some(1000), entries: someEntries(r, r.Intn(8), 20), others: someEntries(r, r.Intn(4), 20), name: names[r.Intn(len(names))], text: texts[r.Intn(len(texts))], day: some(20), days: some(20), from: some(20), to: some(20), i: some(8), reverse: some(20)}
		a.entry = api.Entry{Day: some(20), Account: names[r.Intn(len(names))], Amount: some(9)}
		for i := range 4 {
			a.prices[i], a.feet[i] = some(1000), some(15)
		}
		for range r.Intn(4) {
			a.weights = append(a.weights, some(20))
			a.shares = append(a.shares, some(20))
			if r.Intn(4) == 0 {
				a.entries = append(a.entries, a.entry)
			}
		}
		everyCall(a)
	}
	long := strings.Repeat("a", 1000000)
	everyCall(arguments{weights: make([]int, 1000000), shares: make([]int, 1000000), entries: make([]api.Entry, 1000000), others: make([]api.Entry, 1000000), name: long, text: strings.Repeat("0 ann 1\n", 1000000)})
	everyCall(arguments{amount: 1000000, weights: alike(64, 1000000), shares: make([]int, 1000000), entries: alike(1000, example()[0]), others: alike(1000000, example()[0]), name: "ann", text: strings.Repeat(" ", api.MaxText), entry: api.Entry{Account: long}})
}

// withSpare is a copy of a list that has room behind it, with something in it.
func withSpare[T any](l []T, filling T) (part, all []T) {
	all = append(slices.Clone(l), filling, filling, filling)
	return all[:len(l)], all
}

func TestArgumentsStayAndResultsAreNew(t *testing.T) {
	for _, c := range []arguments{
		{amount: 100, weights: ints(2, 3, 6), shares: ints(18, 27, 55), entries: example(), others: mixed(), entry: example()[0], name: "ann", day: 5, i: 1, reverse: 4, text: "0 ann 1\n2 bob 3\n"},
		{amount: 100, weights: ints(0, 0, 0), shares: ints(34, 33, 33), entries: mixed(), others: example(), entry: example()[2], name: "bob", day: 100000, i: 8, reverse: 100000, text: "0 ann 1\n"},
		{amount: 1000000, weights: alike(64, 1000000), entries: alike(999, example()[0]), others: example()[:1], entry: example()[0], name: "ann", day: 9, i: 998, reverse: 0, text: strings.Repeat("0 ann 1\n", 1000)},
		{amount: 5, weights: ints(1, -1), shares: ints(1), entries: entries("5 ann 1; 4 ann 1"), others: entries("5 ann 0"), entry: api.Entry{Day: -1}, name: "Ann", text: "x"},
		{entries: alike(1000, example()[0]), others: alike(1000, example()[0]), entry: example()[0], name: "ann"},
		{},
	} {
		a := c
		var kept results
		var allEntries, allOthers []api.Entry
		var allWeights, allShares []int
		a.entries, allEntries = withSpare(a.entries, api.Entry{Day: 77, Account: "spare", Amount: 7})
		a.others, allOthers = withSpare(a.others, api.Entry{Day: 78, Account: "spare", Amount: 8})
		a.weights, allWeights = withSpare(a.weights, 55)
		a.shares, allShares = withSpare(a.shares, 56)
		kept.entries = [][]api.Entry{allEntries, allOthers}
		kept.numbers = [][]int{allWeights, allShares}
		before := cloned(kept)
		check := func(what string) {
			t.Helper()
			if !same(kept, before) {
				t.Fatal(what, "the arguments have become", kept)
			}
		}
		got := everyCall(a)
		check("after the calls")
		wants := cloned(got)
		again := everyCall(a)
		if !same(again, wants) {
			t.Fatal("the same calls return", again)
		}
		// What is written to one result, also behind its end, shows nowhere else.
		overwrite(t, got.entries, wants.entries, api.Entry{Day: -99})
		overwrite(t, got.items, wants.items, api.Item{Day: -99})
		overwrite(t, got.numbers, wants.numbers, -99)
		overwrite(t, got.names, wants.names, "other")
		check("after the results were changed")
		if !same(again, wants) || !same(everyCall(a), wants) {
			t.Fatal("results of two calls share memory")
		}
	}
}

func overwrite[T comparable](t *testing.T, lists, wants [][]T, filling T) {
	t.Helper()
	for i, l := range lists {
		if !slices.Equal(l, wants[i]) {
			t.Fatal("results share memory:", i)
		}
		l = l[:cap(l)]
		for j := range l {
			l[j] = filling
		}
	}
}

func same(a, b results) bool {
	return slices.EqualFunc(a.entries, b.entries, slices.Equal) && slices.EqualFunc(a.items, b.items, slices.Equal) && slices.EqualFunc(a.numbers, b.numbers, slices.Equal) && slices.EqualFunc(a.names, b.names, slices.Equal)
}

func cloned(r results) results {
	return results{entries: clonedLists(r.entries), items: clonedLists(r.items), numbers: clonedLists(r.numbers), names: clonedLists(r.names)}
}

func clonedLists[T any](lists [][]T) [][]T {
	var out [][]T
	for _, l := range lists {
		out = append(out, slices.Clone(l))
	}
	return out
}
