package care

import (
	"math"
	"math/rand"
	"regexp"
	"slices"
	"strconv"
	"strings"
	"testing"

	"clinch/api"
)

var extremes = []int{math.MinInt, math.MinInt + 1, -100001, -1, 0, 1, 2, 3, 4, 5, 7, 8, 15, 16, 17, 31, 99, 100, 101, 99999, 100000, 100001, 1 << 32, math.MaxInt - 1, math.MaxInt}

// Numbers that are none of what they should be.
var (
	noDays = ints(-1, 100001, math.MinInt, math.MaxInt)
	noFeet = ints(-1, 4, 15, 64, math.MinInt, math.MaxInt)
	noJobs = ints(-8, -1, 0, 3, 5, 6, 7, 9, 12, 15, 16, 32, math.MinInt, math.MaxInt)
	noSets = ints(-1, 16, 17, 31, math.MinInt, math.MaxInt)
)

var allFour = ints(api.JTrim, api.JNail, api.JHot, api.JPad)

func ints(l ...int) []int {
	return l
}

func list(words string) []string {
	return strings.Fields(words)
}

func sample() *rand.Rand {
	return rand.New(rand.NewSource(6))
}

// given are orders from lines like those of a text, with a semicolon between two of them.
func given(lines string) []api.Rule {
	var l []api.Rule
	for _, line := range strings.Split(lines, ";") {
		words := list(line)
		if len(words) == 0 {
			continue
		}
		var n [5]int
		for i := range n {
			n[i], _ = strconv.Atoi(words[1+i])
		}
		r := api.Rule{Name: words[0], At: n[0], From: n[1], To: n[2], Feet: n[3], Jobs: n[4]}
		if len(words) > 6 {
			r.Replaces = words[6]
		}
		l = append(l, r)
	}
	return l
}

// example are the orders of the chapter.
func example() []api.Rule {
	return given("rest 10 10 50 15 6; light 20 20 30 1 4 rest")
}

// many are so many orders, each of the same days.
func many(count int) []api.Rule {
	var l []api.Rule
	for i := range count {
		l = append(l, api.Rule{Name: "o" + strconv.Itoa(i), At: 5, From: 10, To: 20, Feet: 1, Jobs: 1})
	}
	return l
}

// badRules has an order for each way in which one alone is not valid.
func badRules() []api.Rule {
	var l []api.Rule
	change := func(change func(r *api.Rule)) {
		r := given("rest 10 10 50 15 6")[0]
		change(&r)
		l = append(l, r)
	}
	for _, name := range badNames() {
		change(func(r *api.Rule) { r.Name = name })
	}
	for _, n := range noDays {
		change(func(r *api.Rule) { r.At = n })
		change(func(r *api.Rule) { r.From = n })
		change(func(r *api.Rule) { r.To = n })
		change(func(r *api.Rule) { r.From, r.To = n, n })
	}
	for _, n := range append(noSets, 0) {
		change(func(r *api.Rule) { r.Feet = n })
		change(func(r *api.Rule) { r.Jobs = n })
	}
	for _, n := range ints(10, 9, 0) {
		change(func(r *api.Rule) { r.To = n })
	}
	return l
}

func badNames() []string {
	return []string{"", " ", "_", "0", "_a", "0a", "A", "aB", "a b", " a", "a ", "a-b", "a.", "a\n", "a\x00", "\x00", "\u00e4", "a\u00e4", "a\u0663", "`", "{", "a`", "a{", "a/", "a:", "a^", "abcdefghijklmnopq", strings.Repeat("a", 1000000)}
}

// badOrders has orders for each way of not being valid.
func badOrders() [][]api.Rule {
	list := [][]api.Rule{
		many(101),
		make([]api.Rule, 100000),
		many(100000),
		given("a 5 6 7 1 1; a 5 6 7 1 1"),
		given("a 5 6 7 1 1; b 5 6 7 1 1; a 6 8 9 2 2"),
		given("a 5 6 7 1 1; b 4 6 7 1 1"),
		given("a 5 6 7 1 1; b 7 6 7 1 1; c 6 6 7 1 1"),
		given("a 5 6 7 1 1 b"),
		given("a 5 6 7 1 1 a"),
		given("a 5 6 7 1 1 b; b 5 6 7 1 1"),
		given("a 5 6 7 1 1 b; b 5 6 7 1 1 a"),
		given("a 5 6 7 1 1; b 5 6 7 1 1 c"),
		given("a 5 6 7 1 1; b 5 6 7 1 1 b"),
		given("a 5 6 7 1 1; b 5 6 7 1 1 A"),
		given("a 5 6 7 1 1; b 6 6 7 1 1 a; c 7 6 7 1 1 a"),
		given("a 5 6 7 1 1; b 6 6 7 1 1 a; c 7 6 7 1 1 b; d 8 6 7 1 1 a"),
		{{Name: "a", At: 5, From: 6, To: 7, Feet: 1, Jobs: 1, Replaces: " "}},
	}
	for _, r := range badRules() {
		list = append(list, []api.Rule{r}, append(given("a 0 0 1 1 1"), r))
		if r.At >= 0 && r.At <= 1000 {
			list = append(list, append([]api.Rule{r}, given("z 1000 0 1 1 1")...))
		}
	}
	return list
}

func badConsents() []api.Consent {
	var l []api.Consent
	for _, n := range noSets {
		l = append(l, api.Consent{Jobs: n, Until: 100})
	}
	for _, n := range noDays {
		l = append(l, api.Consent{Jobs: 15, Until: n})
	}
	return l
}

// someOrders are up to so many valid orders of the days from 0 to 40, many of which replace another one.
func someOrders(r *rand.Rand, most int) []api.Rule {
	var l []api.Rule
	var free []string
	at := 0
	for i := range r.Intn(most + 1) {
		at += r.Intn(8)
		from := r.Intn(30)
		rule := api.Rule{Name: "o" + strconv.Itoa(i), At: at, From: from, To: from + 1 + r.Intn(11), Feet: 1 + r.Intn(15), Jobs: 1 + r.Intn(15)}
		if len(free) > 0 && r.Intn(2) == 0 {
			k := r.Intn(len(free))
			rule.Replaces = free[k]
			free = slices.Delete(free, k, k+1)
		}
		free = append(free, rule.Name)
		l = append(l, rule)
	}
	return l
}

// change makes one thing of an order another one, that is often wrong.
func change(r *rand.Rand, x *api.Rule) {
	names := []string{"", "o0", "o1", "o2", "o3", "o4", "new", "No"}
	number := extremes[r.Intn(len(extremes))]
	if r.Intn(2) == 0 {
		number = r.Intn(20)
	}
	switch r.Intn(7) {
	case 0:
		x.Name = names[r.Intn(len(names))]
	case 1:
		x.Replaces = names[r.Intn(len(names))]
	case 2:
		x.At = number
	case 3:
		x.From = number
	case 4:
		x.To = number
	case 5:
		x.Feet = number
	case 6:
		x.Jobs = number
	}
}

func someConsent(r *rand.Rand) api.Consent {
	return api.Consent{Jobs: r.Intn(16), Until: r.Intn(50)}
}

var pattern = regexp.MustCompile(`\A[a-z][a-z0-9_]{0,15}\z`)

func bruteValidAlone(r api.Rule) bool {
	return pattern.MatchString(r.Name) && 0 <= r.At && r.At <= 100000 && 0 <= r.From && r.From < r.To && r.To <= 100000 && 1 <= r.Feet && r.Feet <= 15 && 1 <= r.Jobs && r.Jobs <= 15
}

func bruteValid(l []api.Rule) bool {
	for i, r := range l {
		if !bruteValidAlone(r) {
			return false
		}
		there, replaced := false, false
		for _, earlier := range l[:i] {
			if earlier.Name == r.Name || earlier.At > r.At {
				return false
			}
			there = there || earlier.Name == r.Replaces
			replaced = replaced || earlier.Replaces == r.Replaces
		}
		if r.Replaces != "" && (!there || replaced) {
			return false
		}
	}
	return len(l) <= 100
}

// bruteInForce tells by the chapter's own words which orders are in force.
func bruteInForce(l []api.Rule, day int) []api.Rule {
	var in []api.Rule
	for _, r := range l {
		ended := false
		for _, other := range l {
			ended = ended || other.Replaces == r.Name && other.At <= day
		}
		if r.From <= day && day < r.To && r.At <= day && !ended {
			in = append(in, r)
		}
	}
	return in
}

func bruteNames(l []api.Rule) []string {
	var names []string
	for _, r := range l {
		names = append(names, r.Name)
	}
	return names
}

func bruteForbidden(l []api.Rule, day, foot int) int {
	jobs := 0
	for _, r := range bruteInForce(l, day) {
		if r.Feet&(1<<foot) != 0 {
			jobs |= r.Jobs
		}
	}
	return jobs
}

func bruteAllowed(l []api.Rule, c api.Consent, day, foot, job int) bool {
	return c.Jobs&job != 0 && day < c.Until && bruteForbidden(l, day, foot)&job == 0
}

func wantErrno(t *testing.T, what string, got, want api.Errno) {
	t.Helper()
	if got != want {
		t.Errorf("%s: errno %d, want %d", what, got, want)
	}
}

// wantList also holds a list that comes with an error against nothing.
func wantList[T comparable](t *testing.T, what string, got []T, e api.Errno, want []T, wantE api.Errno) {
	t.Helper()
	wantErrno(t, what, e, wantE)
	if !slices.Equal(got, want) {
		t.Errorf("%s: %v, want %v", what, got[:min(len(got), 20)], want)
	}
}

// wantValue also holds a value that comes with an error against zero.
func wantValue[T comparable](t *testing.T, what string, got T, e api.Errno, want T, wantE api.Errno) {
	t.Helper()
	wantErrno(t, what, e, wantE)
	if got != want {
		t.Errorf("%s: %v, want %v", what, got, want)
	}
}
