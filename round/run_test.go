package round

import (
	"math"
	"testing"

	"clinch/api"
)

// 8.1

func TestValid(t *testing.T) {
	for _, p := range []trip{
		example(),
		{nil, table("0")},
		{[]api.Stop{}, table("0")},
		{yards("0..0+0"), even(1, 0)},
		{yards("0..1440+600"), even(1, 600)},
		{yards("1440..1440+600 0..0+0"), table("0 1 2/3 0 4/600 0 0")},
		{alike(8, yards("5..7+9")[0]), even(8, 600)},
	} {
		if !Valid(p.stops, p.roads) {
			t.Error("not valid:", p)
		}
	}
	for _, p := range badTrips() {
		if Valid(p.stops, p.roads) {
			t.Error("valid:", p.stops[:min(len(p.stops), 10)], p.roads[:min(len(p.roads), 10)])
		}
	}
}

// ways are rounds with what happens on them.
var ways = []struct {
	what     string
	p        trip
	start    int
	round    []int
	visits   []api.Visit
	possible bool
	end      int
	waits    int
	driven   int
}{
	{"the example", example(), 0, ints(2, 1), []api.Visit{{Stop: 2, Arrive: 10, Begin: 10, End: 30}, {Stop: 1, Arrive: 40, Begin: 60, End: 90}}, true, 100, 20, 30},
	{"the example, the wrong way", example(), 0, ints(1, 2), []api.Visit{{Stop: 1, Arrive: 10, Begin: 60, End: 90}, {Stop: 2, Arrive: 100, Begin: 100, End: 120}}, false, 130, 50, 30},
	{"the example, one stop", example(), 0, ints(2), []api.Visit{{Stop: 2, Arrive: 10, Begin: 10, End: 30}}, true, 40, 0, 20},
	{"just in time", example(), 30, ints(2), []api.Visit{{Stop: 2, Arrive: 40, Begin: 40, End: 60}}, true, 70, 0, 20},
	{"a minute too late", example(), 31, ints(2), []api.Visit{{Stop: 2, Arrive: 41, Begin: 41, End: 61}}, false, 71, 0, 20},
	{"it goes on behind a job that begins too late", example(), 31, ints(2, 1), []api.Visit{{Stop: 2, Arrive: 41, Begin: 41, End: 61}, {Stop: 1, Arrive: 71, Begin: 71, End: 101}}, false, 111, 0, 30},
	{"without stops", example(), 77, nil, nil, true, 77, 0, 0},
	{"there are no stops", trip{nil, table("0")}, 1440, nil, nil, true, 1440, 0, 0},
	{"roads in both directions", trip{yards("0..50+1 0..50+2"), table("0 3 5/7 0 11/13 17 0")}, 2, ints(1, 2), []api.Visit{{Stop: 1, Arrive: 5, Begin: 5, End: 6}, {Stop: 2, Arrive: 17, Begin: 17, End: 19}}, true, 32, 0, 27},
	{"the other way round", trip{yards("0..50+1 0..50+2"), table("0 3 5/7 0 11/13 17 0")}, 2, ints(2, 1), []api.Visit{{Stop: 2, Arrive: 7, Begin: 7, End: 9}, {Stop: 1, Arrive: 26, Begin: 26, End: 27}}, true, 34, 0, 29},
	{"open for a minute", trip{yards("9..9+0"), even(1, 4)}, 5, ints(1), []api.Visit{{Stop: 1, Arrive: 9, Begin: 9, End: 9}}, true, 13, 0, 8},
	{"it waits for a minute to be open", trip{yards("9..9+0"), even(1, 4)}, 4, ints(1), []api.Visit{{Stop: 1, Arrive: 8, Begin: 9, End: 9}}, true, 13, 1, 8},
	{"times beyond the last minute", trip{yards("0..1440+600 0..1440+600"), even(2, 600)}, 1440, ints(2, 1), []api.Visit{{Stop: 2, Arrive: 2040, Begin: 2040, End: 2640}, {Stop: 1, Arrive: 3240, Begin: 3240, End: 3840}}, false, 4440, 0, 1800},
	{"the last job ends beyond the last minute", trip{yards("0..1440+600"), even(1, 600)}, 840, ints(1), []api.Visit{{Stop: 1, Arrive: 1440, Begin: 1440, End: 2040}}, true, 2640, 0, 1200},
}

func TestRun(t *testing.T) {
	for _, c := range ways {
		visits, e := Run(c.p.stops, c.p.roads, c.start, c.round)
		wantList(t, "Run: "+c.what, visits, e, c.visits, api.OK)
	}
}

func TestPossible(t *testing.T) {
	for _, c := range ways {
		ok, e := Possible(c.p.stops, c.p.roads, c.start, c.round)
		wantValue(t, "Possible: "+c.what, ok, e, c.possible, api.OK)
	}
}

func TestEnd(t *testing.T) {
	for _, c := range ways {
		end, e := End(c.p.stops, c.p.roads, c.start, c.round)
		wantValue(t, "End: "+c.what, end, e, c.end, api.OK)
	}
}

func TestWaits(t *testing.T) {
	for _, c := range ways {
		waits, e := Waits(c.p.stops, c.p.roads, c.start, c.round)
		wantValue(t, "Waits: "+c.what, waits, e, c.waits, api.OK)
	}
}

func TestDriven(t *testing.T) {
	for _, c := range ways {
		driven, e := Driven(c.p.roads, c.round)
		wantValue(t, "Driven: "+c.what, driven, e, c.driven, api.OK)
	}
	driven, e := Driven(even(8, 600), ints(8, 7, 6, 5, 4, 3, 2, 1))
	wantValue(t, "Driven by all stops", driven, e, 5400, api.OK)
	for _, bad := range badRoads() {
		for _, round := range [][]int{nil, {1}, {1, 1}, {9}} {
			driven, e := Driven(bad, round)
			wantValue(t, "Driven", driven, e, 0, api.ErrInvalid)
		}
	}
	for _, c := range badRounds {
		driven, e := Driven(even(2, 10), c.round)
		wantValue(t, "Driven", driven, e, 0, c.e)
	}
	driven, e = Driven(table("0"), ints(0))
	wantValue(t, "Driven to the forge", driven, e, 0, api.ErrName)
}

func TestRunErrors(t *testing.T) {
	check := func(p trip, start int, round []int, want api.Errno) {
		t.Helper()
		visits, e := Run(p.stops, p.roads, start, round)
		wantList(t, "Run", visits, e, nil, want)
		ok, e := Possible(p.stops, p.roads, start, round)
		wantValue(t, "Possible", ok, e, false, want)
		end, e := End(p.stops, p.roads, start, round)
		wantValue(t, "End", end, e, 0, want)
		waits, e := Waits(p.stops, p.roads, start, round)
		wantValue(t, "Waits", waits, e, 0, want)
	}
	for _, p := range badTrips() {
		check(p, 0, nil, api.ErrInvalid)
		check(p, 0, ints(1), api.ErrInvalid)
		check(p, -1, ints(5, 5, 9), api.ErrInvalid)
	}
	for _, start := range noMinutes {
		check(example(), start, nil, api.ErrRange)
		check(example(), start, ints(1, 2), api.ErrRange)
		check(trip{nil, table("0")}, start, nil, api.ErrRange)
	}
	for _, c := range badRounds {
		check(example(), 0, c.round, c.e)
		check(example(), 1441, c.round, api.ErrRange)
	}
	check(trip{nil, table("0")}, 0, ints(0), api.ErrName)
	check(trip{nil, table("0")}, 0, ints(1), api.ErrName)
}

// 8.3

func TestLatest(t *testing.T) {
	for _, c := range []struct {
		what  string
		p     trip
		round []int
		want  int
		e     api.Errno
	}{
		{"the example", example(), ints(2, 1), 30, api.OK},
		{"the example, the wrong way", example(), ints(1, 2), 0, api.ErrNone},
		{"a single stop", example(), ints(1), 90, api.OK},
		{"without stops", example(), nil, 1440, api.OK},
		{"there are no stops", trip{nil, table("0")}, nil, 1440, api.OK},
		{"only at 0", trip{yards("0..10+0"), even(1, 10)}, ints(1), 0, api.OK},
		{"not even at 0", trip{yards("0..9+0"), even(1, 10)}, ints(1), 0, api.ErrNone},
		{"at the last minute", trip{yards("0..1440+600"), even(1, 0)}, ints(1), 1440, api.OK},
		{"a minute before the last one", trip{yards("0..1439+600"), even(1, 0)}, ints(1), 1439, api.OK},
		{"the last stop is the first to be late", trip{yards("0..1440+10 0..100+0"), even(2, 5)}, ints(1, 2), 80, api.OK},
		{"waiting before a late stop", trip{yards("50..60+10 0..70+0"), even(2, 5)}, ints(1, 2), 50, api.OK},
		{"waiting makes it too late", trip{yards("50..60+10 0..64+0"), even(2, 5)}, ints(1, 2), 0, api.ErrNone},
	} {
		latest, e := Latest(c.p.stops, c.p.roads, c.round)
		wantValue(t, c.what, latest, e, c.want, c.e)
	}
	for _, p := range badTrips() {
		for _, round := range [][]int{nil, {9}, {1, 1}} {
			latest, e := Latest(p.stops, p.roads, round)
			wantValue(t, "Latest", latest, e, 0, api.ErrInvalid)
		}
	}
	for _, c := range badRounds {
		latest, e := Latest(example().stops, example().roads, c.round)
		wantValue(t, "Latest", latest, e, 0, c.e)
	}
	impossible := trip{yards("0..0+0 0..0+0"), even(2, 1)}
	latest, e := Latest(impossible.stops, impossible.roads, ints(1, 1))
	wantValue(t, "Latest of a stop twice that is not possible", latest, e, 0, api.ErrDuplicate)
}

// P8.3

func TestLater(t *testing.T) {
	r := sample()
	some, none := 0, 0
	for range 300 {
		p := someTrip(r, 1+r.Intn(5), 150)
		rounds := bruteRounds(len(p.stops))
		round := rounds[r.Intn(len(rounds))]
		before := math.MinInt
		was, last := true, -1
		for start := range api.MaxMinute + 1 {
			end, e := End(p.stops, p.roads, start, round)
			wantErrno(t, "End", e, api.OK)
			ok, e := Possible(p.stops, p.roads, start, round)
			wantErrno(t, "Possible", e, api.OK)
			if end < before || ok && !was {
				t.Fatal("beginning later is better:", p, round, start)
			}
			before, was = end, ok
			if ok {
				last = start
			}
		}
		latest, e := Latest(p.stops, p.roads, round)
		if last < 0 {
			none++
			wantValue(t, "Latest", latest, e, 0, api.ErrNone)
		} else {
			some++
			wantValue(t, "Latest", latest, e, last, api.OK)
		}
	}
	if some < 100 || none < 50 {
		t.Error("too few of a kind:", some, none)
	}
}

// P8.4

func TestEndIsTheSum(t *testing.T) {
	r := sample()
	kinds := map[bool]int{}
	for range 2000 {
		p := someTrip(r, r.Intn(9), 60)
		round := r.Perm(len(p.stops))[:r.Intn(len(p.stops)+1)]
		worked := 0
		for i := range round {
			worked += p.stops[round[i]].Job
			round[i]++
		}
		start := r.Intn(60)
		wantVisits, wantOK, wantEnd := bruteRun(p, start, round)
		visits, e := Run(p.stops, p.roads, start, round)
		wantList(t, "Run", visits, e, wantVisits, api.OK)
		ok, e := Possible(p.stops, p.roads, start, round)
		wantValue(t, "Possible", ok, e, wantOK, api.OK)
		end, e := End(p.stops, p.roads, start, round)
		wantValue(t, "End", end, e, wantEnd, api.OK)
		driven, e := Driven(p.roads, round)
		wantErrno(t, "Driven", e, api.OK)
		waits, e := Waits(p.stops, p.roads, start, round)
		wantValue(t, "Waits", waits, e, end-start-driven-worked, api.OK)
		kinds[ok]++
		if t.Failed() {
			t.Fatal("for", p, start, round)
		}
	}
	if kinds[true] < 300 || kinds[false] < 300 {
		t.Error("too few of a kind:", kinds)
	}
}
