package gait

import (
	"math/rand"
	"slices"
	"testing"

	"clinch/api"
)

// P5.1 and P1 (R1, R4, R7)

// arguments are what functions are called with.
type arguments struct {
	falls                []api.Fall
	left, right, steps   []int
	blocks, given        []int
	answers              []api.Answer
	regions, k, number   int
	tie, limb, least, at int
	text                 string
}

// results are the lists that calls return.
type results struct {
	lists   [][]int
	falls   [][]api.Fall
	answers [][]api.Answer
}

// everyCall calls all functions.
func everyCall(a arguments) results {
	Valid(a.falls)
	beats, _ := Beats(a.falls, a.tie)
	Gait(a.falls, a.tie)
	times, _ := Strides(a.falls, a.limb)
	Even(a.falls, a.limb, a.number)
	swapped, _ := Swapped(a.falls)
	Word(a.number)
	Difference(a.left, a.right)
	Side(a.left, a.right, a.least)
	Grade(a.left, a.right, a.least, a.steps)
	ValidBlocks(a.regions, a.blocks)
	Numb(a.regions, a.blocks, a.given)
	answers, _ := Answers(a.regions, a.blocks, a.given, a.at)
	possible, _ := Possible(a.regions, a.blocks, a.answers)
	Good(a.regions, a.blocks, a.given, a.k)
	way, _ := Shortest(a.regions, a.blocks, a.k)
	Least(a.regions, a.blocks)
	classes, _ := Classes(a.regions, a.blocks, a.given)
	parsed, _, _ := Parse(Format(a.falls))
	other, _, _ := Parse(a.text)
	return results{
		lists:   slices.Concat(beats, classes, [][]int{times, possible, way}),
		falls:   [][]api.Fall{swapped, parsed, other},
		answers: [][]api.Answer{answers},
	}
}

func TestEveryCallEnds(t *testing.T) {
	r := sample()
	number := func(most int) int {
		if r.Intn(4) == 0 {
			return extremes[r.Intn(len(extremes))]
		}
		return r.Intn(most + 1)
	}
	list := func(most int) []int {
		l := make([]int, r.Intn(6))
		for i := range l {
			l[i] = r.Intn(most + 1)
		}
		if len(l) > 0 && r.Intn(4) == 0 {
			l[r.Intn(len(l))] = number(most)
		}
		return l
	}
	for range 20000 {
		a := arguments{falls: someFalls(r, 20), left: list(100), right: list(100), steps: list(50), blocks: list(15), given: list(3),
			regions: number(12), k: number(12), number: number(100), tie: number(50), limb: number(3), least: number(20), at: number(4), text: someText(r)}
		if len(a.falls) > 0 && r.Intn(4) == 0 {
			a.falls[r.Intn(len(a.falls))] = api.Fall{At: number(100), Limb: number(3)}
		}
		for _, b := range list(3) {
			a.answers = append(a.answers, api.Answer{Block: b, Sound: r.Intn(3) == 0})
		}
		everyCall(a)
	}
	long := make([]int, 1000000)
	everyCall(arguments{falls: make([]api.Fall, 1000000), left: long, right: long, steps: long, blocks: long, given: long, answers: make([]api.Answer, 1000000), regions: 12, k: 1, least: 1})
	everyCall(arguments{falls: manyFalls(2000), left: long[:1000], right: long[:1000], steps: ints(1), blocks: slices.Repeat(ints(4095), 16), given: long, answers: make([]api.Answer, 1000000), regions: 12, k: 12, least: 1})
}

func TestManyBlocksAreFast(t *testing.T) {
	r := sample()
	for range 50 {
		a := arguments{regions: 12, k: 1}
		for i := range 16 {
			a.blocks = append(a.blocks, 1<<(i%12)|1<<r.Intn(12))
		}
		everyCall(a)
	}
}

func someText(r *rand.Rand) string {
	s := make([]byte, r.Intn(30))
	for i := range s {
		s[i] = "0123456789  \n\n-+\x00\xff"[r.Intn(18)]
	}
	return string(s)
}

// spare is a copy of a list that has room behind it, with something in it.
func spare[T any](l []T, filling T) (part, all []T) {
	all = append(slices.Clone(l), filling, filling, filling)
	return all[:len(l)], all
}

func TestArgumentsStayAndResultsAreNew(t *testing.T) {
	for _, c := range []arguments{
		{falls: falls(0, 3, 5, 0, 5, 1, 7, 1, 300, 1, 304, 2, 500, 1), left: ints(5, 7), right: ints(20, 30), steps: ints(5, 10), blocks: ints(1, 3, 7), given: ints(2, 0, 1),
			answers: said(2, 0), regions: 4, k: 1, number: 100, tie: 20, limb: 1, least: 5, at: 3, text: "0 0\n5 3\n"},
		{falls: beating("03 12 03 12"), left: ints(20, 30), right: ints(5, 7), steps: ints(5), blocks: ints(4095, 1, 2048, 63), given: ints(1, 2, 3),
			answers: said(-1, 1, 2), regions: 12, k: 6, number: 100, tie: 20, limb: 3, least: 5, at: 11, text: "0 0\n5 3\n1 1\n"},
		{falls: falls(5, 0, 4, 0), left: ints(1), right: ints(), steps: ints(3, 2), blocks: ints(0, 1), given: ints(0, 0), answers: said(0, 0), regions: 13},
		{},
	} {
		a := c
		var all results
		var l []int
		for _, list := range []*[]int{&a.left, &a.right, &a.steps, &a.blocks, &a.given} {
			*list, l = spare(*list, 77)
			all.lists = append(all.lists, l)
		}
		var allFalls []api.Fall
		a.falls, allFalls = spare(a.falls, api.Fall{At: 77, Limb: 78})
		all.falls = append(all.falls, allFalls)
		var allAnswers []api.Answer
		a.answers, allAnswers = spare(a.answers, api.Answer{Block: 77, Sound: true})
		all.answers = append(all.answers, allAnswers)
		before := cloned(all)
		check := func(what string) {
			t.Helper()
			if !same(all, before) {
				t.Fatal(what, "the arguments have become", all)
			}
		}
		got := everyCall(a)
		check("after the calls")
		wants := cloned(got)
		again := everyCall(a)
		if !same(again, wants) {
			t.Fatal("the same calls return", again)
		}
		// What is written to one result, also behind its end, shows nowhere else.
		overwrite(t, got.lists, wants.lists, -99)
		overwrite(t, got.falls, wants.falls, api.Fall{At: -99})
		overwrite(t, got.answers, wants.answers, api.Answer{Block: -99})
		check("after the results were changed")
		if !same(again, wants) || !same(everyCall(a), wants) {
			t.Fatal("results of two calls share memory")
		}
	}
}

func overwrite[T comparable](t *testing.T, lists, wants [][]T, filling T) {
	t.Helper()
	for i, l := range lists {
		if !slices.Equal(l, wants[i]) {
			t.Fatal("results share memory:", i)
		}
		l = l[:cap(l)]
		for j := range l {
			l[j] = filling
		}
	}
}

func same(a, b results) bool {
	return slices.EqualFunc(a.lists, b.lists, slices.Equal) && slices.EqualFunc(a.falls, b.falls, slices.Equal) && slices.EqualFunc(a.answers, b.answers, slices.Equal)
}

func cloned(r results) results {
	return results{lists: clonedLists(r.lists), falls: clonedLists(r.falls), answers: clonedLists(r.answers)}
}

func clonedLists[T any](lists [][]T) [][]T {
	var out [][]T
	for _, l := range lists {
		out = append(out, slices.Clone(l))
	}
	return out
}
