package care

import (
	"math/rand"
	"slices"
	"strings"
	"testing"

	"clinch/api"
)

// P6.1 and P1 (R1, R4, R7)

// arguments are what functions are called with.
type arguments struct {
	rules                    []api.Rule
	steps                    []string
	rule                     api.Rule
	consent                  api.Consent
	day, to, foot, job, jobs int
	name, text               string
}

// results are the lists that calls return.
type results struct {
	rules [][]api.Rule
	words [][]string
	days  [][]int
}

// everyCall calls all functions.
func everyCall(a arguments) results {
	Name(a.name)
	ValidRules(a.rules)
	ValidConsent(a.consent)
	inForce, _ := InForce(a.rules, a.day)
	Forbidden(a.rules, a.day, a.foot)
	why, _ := Why(a.rules, a.day, a.foot, a.job)
	Allowed(a.rules, a.consent, a.day, a.foot, a.job)
	Next(a.rules, a.consent, a.day, a.foot, a.job)
	Free(a.rules, a.consent, a.day, a.jobs)
	changes, _ := Changes(a.rules, a.day, a.to)
	chain, _ := Chain(a.rules, a.name)
	added, _ := Added(a.rules, a.rule)
	lifted, _ := Lifted(a.rules, a.name, a.to)
	steps := Steps(a.steps)
	SoundCase(a.steps)
	Open(a.steps)
	way, _ := Shortest(a.steps)
	parsed, _, _ := Parse(Format(a.rules))
	other, _, _ := Parse(a.text)
	return results{
		rules: [][]api.Rule{added, lifted, parsed, other},
		words: [][]string{inForce, why, chain, steps, way},
		days:  [][]int{changes},
	}
}

func TestEveryCallEnds(t *testing.T) {
	r := sample()
	number := func(most int) int {
		if r.Intn(4) == 0 {
			return extremes[r.Intn(len(extremes))]
		}
		return r.Intn(most + 1)
	}
	for range 20000 {
		a := arguments{rules: someOrders(r, 8), consent: api.Consent{Jobs: number(15), Until: number(60)}, day: number(60), to: number(60), foot: number(3), job: number(8), jobs: number(15), name: someName(r), text: someName(r)}
		for range r.Intn(3) {
			change(r, &a.rule)
			if len(a.rules) > 0 && r.Intn(3) == 0 {
				change(r, &a.rules[r.Intn(len(a.rules))])
			}
		}
		for range r.Intn(8) {
			a.steps = append(a.steps, append(Steps(a.steps), someName(r))[0])
		}
		everyCall(a)
	}
	long := strings.Repeat("seen ", 1000000)
	everyCall(arguments{rules: make([]api.Rule, 1000000), steps: make([]string, 1000000), name: long, text: long})
	everyCall(arguments{rules: many(100), steps: endless(1000000), name: "o99", job: 1, to: api.MaxDay, rule: api.Rule{Name: long, Replaces: long}})
}

func someName(r *rand.Rand) string {
	names := []string{"", "o0", "o1", "o5", "seen", "treat", "close", "new", "No", "a 0 0 1 1 1\n", "a 0 0 1 1 1", "\n", "\xff", "\x00"}
	return names[r.Intn(len(names))]
}

func TestManyOrdersAreFast(t *testing.T) {
	l := many(100)
	for i := range l {
		l[i].At, l[i].From, l[i].To = 100*i, 100*i+30, 100*i+160
	}
	c := api.Consent{Jobs: 15, Until: 100000}
	for range 50 {
		day, e := Next(l, c, 30, 0, 1)
		wantValue(t, "Next", day, e, 10060, api.OK)
		days, e := Changes(l, 0, 100000)
		if len(days) != 200 || e != api.OK {
			t.Fatal("there are", len(days), "changes", e)
		}
	}
}

// spare is a copy of a list that has room behind it, with something in it.
func spare[T any](l []T, filling T) (part, all []T) {
	all = append(slices.Clone(l), filling, filling, filling)
	return all[:len(l)], all
}

func TestArgumentsStayAndResultsAreNew(t *testing.T) {
	all := api.Consent{Jobs: 15, Until: 100}
	for _, c := range []arguments{
		{rules: example(), steps: list("seen treat lame treat lame"), rule: given("b 20 0 1 1 1 light")[0], consent: all, day: 0, to: 25, job: 2, name: "light", text: "a 0 0 1 1 1\n"},
		{rules: example(), steps: list("seen"), rule: given("b 21 0 1 1 1")[0], consent: all, day: 15, to: 45, foot: 3, job: 4, jobs: 15, name: "rest"},
		{rules: many(99), steps: list("seen close"), rule: given("z 5 0 1 1 1")[0], consent: all, day: 10, to: 100000, job: 1, jobs: 1, name: "o7", text: "a 0 0 1 1 1\nb 0 0 1 1 1 a\n"},
		{rules: given("a 5 6 7 1 1; a 5 6 7 1 1"), steps: list("vet close"), rule: given("a 5 6 7 1 1")[0], day: 5, to: 9, job: 1, name: "a", text: "x"},
		{},
	} {
		a := c
		var allRules []api.Rule
		var allSteps []string
		a.rules, allRules = spare(a.rules, api.Rule{Name: "spare", At: 77})
		a.steps, allSteps = spare(a.steps, "spare")
		kept := results{rules: [][]api.Rule{allRules}, words: [][]string{allSteps}}
		before := cloned(kept)
		check := func(what string) {
			t.Helper()
			if !same(kept, before) {
				t.Fatal(what, "the arguments have become", kept)
			}
		}
		got := everyCall(a)
		check("after the calls")
		wants := cloned(got)
		again := everyCall(a)
		if !same(again, wants) {
			t.Fatal("the same calls return", again)
		}
		// What is written to one result, also behind its end, shows nowhere else.
		overwrite(t, got.rules, wants.rules, api.Rule{Name: "other"})
		overwrite(t, got.words, wants.words, "other")
		overwrite(t, got.days, wants.days, -99)
		check("after the results were changed")
		if !same(again, wants) || !same(everyCall(a), wants) {
			t.Fatal("results of two calls share memory")
		}
	}
}

func overwrite[T comparable](t *testing.T, lists, wants [][]T, filling T) {
	t.Helper()
	for i, l := range lists {
		if !slices.Equal(l, wants[i]) {
			t.Fatal("results share memory:", i)
		}
		l = l[:cap(l)]
		for j := range l {
			l[j] = filling
		}
	}
}

func same(a, b results) bool {
	return slices.EqualFunc(a.rules, b.rules, slices.Equal) && slices.EqualFunc(a.words, b.words, slices.Equal) && slices.EqualFunc(a.days, b.days, slices.Equal)
}

func cloned(r results) results {
	return results{rules: clonedLists(r.rules), words: clonedLists(r.words), days: clonedLists(r.days)}
}

func clonedLists[T any](lists [][]T) [][]T {
	var out [][]T
	for _, l := range lists {
		out = append(out, slices.Clone(l))
	}
	return out
}
