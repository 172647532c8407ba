package round

import (
	"slices"
	"testing"

	"clinch/api"
)

// days are stops and roads with what rounds of them are best.
var days = []struct {
	what    string
	p       trip
	start   int
	best    []int
	bestE   api.Errno
	largest []int
	alone   []int
	against []int // with ErrNone if Best has none
	before  [][2]int
}{
	{"the example", example(), 0, ints(2, 1), api.OK, ints(2, 1), nil, nil, [][2]int{{2, 1}}},
	{"the example, at the last moment", example(), 30, ints(2, 1), api.OK, ints(2, 1), nil, nil, [][2]int{{2, 1}}},
	{"the example, a minute later", example(), 31, nil, api.ErrNone, ints(1), ints(2), ints(2), nil},
	{"the example, much later", example(), 91, nil, api.ErrNone, nil, ints(1, 2), ints(1), nil},
	{"there are no stops", trip{nil, table("0")}, 1440, nil, api.OK, nil, nil, nil, nil},
	{"one stop", trip{yards("0..9+5"), even(1, 9)}, 0, ints(1), api.OK, ints(1), nil, nil, nil},
	{"one stop, too late", trip{yards("0..9+5"), even(1, 9)}, 1, nil, api.ErrNone, nil, ints(1), ints(1), nil},
	{"all rounds end at the same time", trip{yards("0..500+5 0..500+5 0..500+5"), even(3, 9)}, 0, ints(1, 2, 3), api.OK, ints(1, 2, 3), nil, nil, nil},
	{"of several the first list", trip{yards("20..500+5 0..500+5 0..500+5"), even(3, 1)}, 0, ints(2, 3, 1), api.OK, ints(2, 3, 1), nil, nil, nil},
	{"the shorter roads", trip{yards("0..500+0 0..500+0"), table("0 9 2/2 0 9/9 2 0")}, 0, ints(2, 1), api.OK, ints(2, 1), nil, nil, nil},
	{"the way back counts", trip{yards("0..500+0 0..500+0"), table("0 1 1/1 0 1/600 1 0")}, 0, ints(2, 1), api.OK, ints(2, 1), nil, nil, nil},
	{"the earliest end, not the least driven", trip{yards("40..500+0 0..500+20"), table("0 10 30/10 0 1/10 1 0")}, 0, ints(2, 1), api.OK, ints(2, 1), nil, nil, nil},
	{"waiting is no reason to leave a stop out", trip{yards("1000..1440+0 0..10+0"), even(2, 5)}, 0, ints(2, 1), api.OK, ints(2, 1), nil, nil, [][2]int{{2, 1}}},
	{"not both", trip{yards("0..10+10 0..10+10"), even(2, 5)}, 0, nil, api.ErrNone, ints(1), nil, ints(1, 2), nil},
	{"not both, the second ends earlier", trip{yards("0..10+10 0..10+9"), even(2, 5)}, 0, nil, api.ErrNone, ints(2), nil, ints(1, 2), nil},
	{"not all three", trip{yards("0..20+10 0..20+10 0..20+10"), even(3, 5)}, 0, nil, api.ErrNone, ints(1, 2), nil, ints(1, 2, 3), nil},
	{"the last two do not go together", trip{yards("0..99+0 0..10+10 0..10+10"), even(3, 5)}, 0, nil, api.ErrNone, ints(1, 2), nil, ints(2, 3), nil},
	{"of several sets the first", trip{yards("0..9+9 0..9+9 0..9+9"), even(3, 5)}, 0, nil, api.ErrNone, ints(1), nil, ints(1, 2), nil},
	{"a smaller set that comes later", trip{yards("0..9+9 0..9+9 0..4+0"), even(3, 5)}, 0, nil, api.ErrNone, ints(1), ints(3), ints(3), nil},
	{"a smaller set is not possible, all stops are", trip{yards("0..50+0 0..10+0"), table("0 5 99/5 0 5/5 5 0")}, 0, ints(1, 2), api.OK, ints(1, 2), ints(2), nil, [][2]int{{1, 2}}},
	{"one order of three", trip{yards("30..30+0 10..10+0 20..20+0"), even(3, 10)}, 0, ints(2, 3, 1), api.OK, ints(2, 3, 1), nil, nil, [][2]int{{2, 1}, {2, 3}, {3, 1}}},
	{"the first of three", trip{yards("0..99+0 0..99+0 0..10+0"), even(3, 10)}, 0, ints(3, 1, 2), api.OK, ints(3, 1, 2), nil, nil, [][2]int{{3, 1}, {3, 2}}},
	{"the largest round is not the first", trip{yards("0..10+600 20..30+5 0..10+5"), even(3, 10)}, 0, nil, api.ErrNone, ints(3, 2), nil, ints(1, 2), nil},
}

// 8.2

func TestBest(t *testing.T) {
	for _, c := range days {
		best, e := Best(c.p.stops, c.p.roads, c.start)
		wantList(t, "Best: "+c.what, best, e, c.best, c.bestE)
	}
}

func TestIsBest(t *testing.T) {
	for _, c := range days {
		if got := IsBest(c.p.stops, c.p.roads, c.start, c.best); got != (c.bestE == api.OK) {
			t.Error("IsBest of", c.best, "is", got, ":", c.what)
		}
		for _, round := range bruteRounds(len(c.p.stops) + 1) {
			is := c.bestE == api.OK && slices.Equal(round, c.best)
			if got := IsBest(c.p.stops, c.p.roads, c.start, round); got != is {
				t.Error("IsBest of", round, "is", got, ":", c.what)
			}
		}
	}
	equal := trip{yards("0..99+5 0..99+5"), even(2, 9)}
	if IsBest(equal.stops, equal.roads, 0, ints(2, 1)) || IsBest(equal.stops, equal.roads, 0, ints(1, 2, 2)) || !IsBest(equal.stops, equal.roads, 0, ints(1, 2)) {
		t.Error("IsBest of equal stops")
	}
	for _, p := range badTrips() {
		if IsBest(p.stops, p.roads, 0, nil) || IsBest(p.stops, p.roads, 0, ints(1)) {
			t.Error("IsBest with", p.stops[:min(len(p.stops), 10)], p.roads[:min(len(p.roads), 10)])
		}
	}
	for _, start := range noMinutes {
		if IsBest(nil, table("0"), start, nil) || IsBest(equal.stops, equal.roads, start, ints(1, 2)) {
			t.Error("IsBest from", start)
		}
	}
}

func TestLargest(t *testing.T) {
	for _, c := range days {
		largest, e := Largest(c.p.stops, c.p.roads, c.start)
		wantList(t, "Largest: "+c.what, largest, e, c.largest, api.OK)
	}
}

func TestAlone(t *testing.T) {
	for _, c := range days {
		alone, e := Alone(c.p.stops, c.p.roads, c.start)
		wantList(t, "Alone: "+c.what, alone, e, c.alone, api.OK)
	}
	alone, e := Alone(yards("0..9+0 0..8+0 0..9+0 0..0+0"), table("0 9 9 600 0/0 0 0 0 0/0 0 0 0 0/0 0 0 0 0/0 0 0 0 0"), 0)
	wantList(t, "Alone", alone, e, ints(2, 3), api.OK)
}

// 8.3

func TestAgainst(t *testing.T) {
	for _, c := range days {
		want := api.OK
		if c.bestE == api.OK {
			want = api.ErrNone
		}
		against, e := Against(c.p.stops, c.p.roads, c.start)
		wantList(t, "Against: "+c.what, against, e, c.against, want)
	}
	against, e := Against(alike(8, yards("0..70+10")[0]), even(8, 0), 1)
	wantList(t, "Against of all eight", against, e, ints(1, 2, 3, 4, 5, 6, 7, 8), api.OK)
}

func TestBefore(t *testing.T) {
	for _, c := range days {
		before, e := Before(c.p.stops, c.p.roads, c.start)
		wantList(t, "Before: "+c.what, before, e, c.before, c.bestE)
	}
}

func TestSets(t *testing.T) {
	got := slices.Collect(sets(3))
	if !equal(got, [][]int{nil, {1}, {2}, {3}, {1, 2}, {1, 3}, {2, 3}, {1, 2, 3}}) {
		t.Error("the sets of three are", got)
	}
}

func TestDayErrors(t *testing.T) {
	check := func(p trip, start int, want api.Errno) {
		t.Helper()
		best, e := Best(p.stops, p.roads, start)
		wantList(t, "Best", best, e, nil, want)
		largest, e := Largest(p.stops, p.roads, start)
		wantList(t, "Largest", largest, e, nil, want)
		alone, e := Alone(p.stops, p.roads, start)
		wantList(t, "Alone", alone, e, nil, want)
		against, e := Against(p.stops, p.roads, start)
		wantList(t, "Against", against, e, nil, want)
		before, e := Before(p.stops, p.roads, start)
		wantList(t, "Before", before, e, nil, want)
	}
	for _, p := range badTrips() {
		check(p, 0, api.ErrInvalid)
		check(p, -1, api.ErrInvalid)
	}
	for _, start := range noMinutes {
		check(example(), start, api.ErrRange)
		check(trip{nil, table("0")}, start, api.ErrRange)
		check(trip{yards("0..0+0"), even(1, 600)}, start, api.ErrRange)
	}
}

// P8.2 and P8.5

// checkDay holds what is found against all possible rounds.
func checkDay(t *testing.T, p trip, start int) (isFull bool) {
	t.Helper()
	possible := brutePossible(p, start)
	greatest := possible[len(possible)-1]
	isFull = len(greatest) == len(p.stops)
	all := slices.DeleteFunc(slices.Clone(possible), func(round []int) bool { return len(round) < len(p.stops) })
	var wantBest, wantAgainst, wantAlone []int
	var wantBefore [][2]int
	bestE, againstE := api.ErrNone, api.OK
	if isFull {
		wantBest, bestE, againstE = greatest, api.OK, api.ErrNone
		wantBefore = bruteBefore(p, all)
	} else {
		wantAgainst = bruteAgainst(p, possible)
	}
	for i := range p.stops {
		if !slices.ContainsFunc(possible, func(round []int) bool { return slices.Equal(round, ints(i+1)) }) {
			wantAlone = append(wantAlone, i+1)
		}
	}
	best, e := Best(p.stops, p.roads, start)
	wantList(t, "Best", best, e, wantBest, bestE)
	if IsBest(p.stops, p.roads, start, greatest) != isFull {
		t.Error("IsBest of", greatest)
	}
	largest, e := Largest(p.stops, p.roads, start)
	wantList(t, "Largest", largest, e, greatest, api.OK)
	alone, e := Alone(p.stops, p.roads, start)
	wantList(t, "Alone", alone, e, wantAlone, api.OK)
	against, e := Against(p.stops, p.roads, start)
	wantList(t, "Against", against, e, wantAgainst, againstE)
	before, e := Before(p.stops, p.roads, start)
	wantList(t, "Before", before, e, wantBefore, bestE)
	if t.Failed() {
		t.Fatal("for", p, start)
	}
	return isFull
}

func TestAgainstBrute(t *testing.T) {
	r := sample()
	kinds := map[bool]int{}
	for range 2000 {
		kinds[checkDay(t, someTrip(r, r.Intn(6), ints(20, 80, 150)[r.Intn(3)]), r.Intn(20))]++
	}
	if kinds[true] < 300 || kinds[false] < 300 {
		t.Error("too few of a kind:", kinds)
	}
	for _, wide := range ints(40, 80, 200, 400) {
		checkDay(t, someTrip(r, 7, wide), 0)
	}
	checkDay(t, someTrip(r, 8, 100), 0)
}

func TestBestIsPossible(t *testing.T) {
	r := sample()
	found := 0
	for range 100 {
		p, start := someTrip(r, 8, 250), r.Intn(20)
		best, e := Best(p.stops, p.roads, start)
		largest, _ := Largest(p.stops, p.roads, start)
		if e != api.OK {
			if len(largest) == 8 {
				t.Fatal("there is no best round, but", largest)
			}
			continue
		}
		found++
		_, ok, end := bruteRun(p, start, best)
		if !ok || !slices.Equal(sorted(best), ints(1, 2, 3, 4, 5, 6, 7, 8)) || !slices.Equal(best, largest) {
			t.Fatal("the best round of", p, start, "is", best)
		}
		for range 500 {
			round := r.Perm(8)
			for i := range round {
				round[i]++
			}
			_, ok, other := bruteRun(p, start, round)
			if ok && (other < end || other == end && slices.Compare(round, best) < 0) {
				t.Fatal("the best round of", p, start, "is", best, "but there is", round)
			}
		}
	}
	if found < 20 {
		t.Error("too few best rounds:", found)
	}
}

// P8.4

func TestAloneIsInNoRound(t *testing.T) {
	r := sample()
	seen := 0
	for range 1000 {
		p, start := someTrip(r, 1+r.Intn(5), 20), r.Intn(70)
		p.roads = bruteShorter(p.roads)
		alone, e := Alone(p.stops, p.roads, start)
		wantErrno(t, "Alone", e, api.OK)
		for _, round := range brutePossible(p, start) {
			if slices.ContainsFunc(alone, func(stop int) bool { return slices.Contains(round, stop) }) {
				t.Fatal(round, "is possible with", p, start, "but not alone:", alone)
			}
		}
		seen += len(alone)
	}
	if seen < 300 {
		t.Error("too few stops alone:", seen)
	}
}
