package round

import (
	"math"
	"slices"
	"testing"

	"clinch/api"
)

// 8.4

func TestDirect(t *testing.T) {
	for _, c := range []struct {
		roads string
		want  bool
	}{
		{"0", true},
		{"0 600/0 0", true},
		{"0 10 20/10 0 10/20 10 0", true},
		{"0 10 21/10 0 10/20 10 0", false},
		{"0 10 20/10 0 10/21 10 0", false},
		{"0 21 10/10 0 10/10 10 0", false},
		{"0 10 10/10 0 21/10 10 0", false},
		{"0 0 0/0 0 1/0 0 0", false},
		{"0 0 0/0 0 0/0 0 0", true},
		{"0 1 1/600 0 600/600 600 0", true},
		{"0 5 5 5/5 0 5 11/5 5 0 5/5 5 5 0", false},
		{"0 5 5 5/5 0 5 10/5 5 0 5/5 5 5 0", true},
		// by two places on the way, each road between two of the three places then is longer
		{"0 1 2 4/9 0 1 2/9 9 0 1/9 9 9 0", false},
		{"0 1 2 3/9 0 1 2/9 9 0 1/9 9 9 0", true},
	} {
		if got := Direct(table(c.roads)); got != c.want {
			t.Error("Direct of", c.roads, "is", got)
		}
	}
	if !Direct(even(8, 600)) {
		t.Error("even roads are not direct")
	}
	last := even(8, 300)
	last[8][7] = 600
	if !Direct(last) {
		t.Error("a road that is just as long is not direct")
	}
	last[7][6] = 299
	last[8][6] = 599
	if !Direct(last) {
		t.Error("a road that is just as long is not direct")
	}
	last[8][6] = 600
	last[8][5] = 300
	last[5][6] = 299
	if Direct(last) {
		t.Error("a road that is a minute longer is direct")
	}
	for _, l := range badRoads() {
		if Direct(l) {
			t.Error("direct:", l[:min(len(l), 10)])
		}
	}
}

func TestShorter(t *testing.T) {
	for _, c := range []struct{ roads, want string }{
		{"0", "0"},
		{"0 600/0 0", "0 600/0 0"},
		{"0 10 21/10 0 10/25 10 0", "0 10 20/10 0 10/20 10 0"},
		{"0 1 600 600/600 0 1 600/600 600 0 1/1 600 600 0", "0 1 2 3/3 0 1 2/2 3 0 1/1 2 3 0"},
		{"0 600 600 1/1 0 600 600/600 1 0 600/600 600 1 0", "0 3 2 1/1 0 3 2/2 1 0 3/3 2 1 0"},
		{"0 0 600/0 0 0/600 0 0", "0 0 0/0 0 0/0 0 0"},
	} {
		shorter, e := Shorter(table(c.roads))
		wantTable(t, "Shorter of "+c.roads, shorter, e, table(c.want), api.OK)
	}
	for _, l := range badRoads() {
		shorter, e := Shorter(l)
		wantTable(t, "Shorter", shorter, e, nil, api.ErrInvalid)
	}
}

// P8.6

func TestShorterIsDirect(t *testing.T) {
	r := sample()
	kinds := map[bool]int{}
	for range 1000 {
		p := someTrip(r, r.Intn(6), 5)
		want := bruteShorter(p.roads)
		shorter, e := Shorter(p.roads)
		wantTable(t, "Shorter", shorter, e, want, api.OK)
		if !Direct(shorter) {
			t.Error("not direct:", shorter)
		}
		for i, row := range shorter {
			for j, minutes := range row {
				if minutes > p.roads[i][j] {
					t.Error("longer:", shorter)
				}
			}
		}
		again, e := Shorter(shorter)
		wantTable(t, "Shorter again", again, e, shorter, api.OK)
		direct := Direct(p.roads)
		kinds[direct]++
		if direct != equal(shorter, p.roads) {
			t.Error("Direct of", p.roads, "is", direct)
		}
		if t.Failed() {
			t.Fatal("for", p.roads)
		}
	}
	if kinds[true] < 100 || kinds[false] < 300 {
		t.Error("too few of a kind:", kinds)
	}
	for range 5 {
		p := someTrip(r, 8, 5)
		shorter, e := Shorter(p.roads)
		wantTable(t, "Shorter", shorter, e, bruteShorter(p.roads), api.OK)
	}
}

// 8.4

func TestWithout(t *testing.T) {
	p := trip{yards("1..2+3 4..5+6 7..8+9"), table("0 1 2 3/10 0 12 13/20 21 0 23/30 31 32 0")}
	for _, c := range []struct {
		i           int
		stops, left string
	}{
		{1, "4..5+6 7..8+9", "0 2 3/20 0 23/30 32 0"},
		{2, "1..2+3 7..8+9", "0 1 3/10 0 13/30 31 0"},
		{3, "1..2+3 4..5+6", "0 1 2/10 0 12/20 21 0"},
	} {
		left, roads, e := Without(p.stops, p.roads, c.i)
		wantList(t, "Without", left, e, yards(c.stops), api.OK)
		wantTable(t, "Without", roads, e, table(c.left), api.OK)
	}
	left, roads, e := Without(yards("1..2+3"), even(1, 5), 1)
	wantList(t, "Without the only one", left, e, nil, api.OK)
	wantTable(t, "Without the only one", roads, e, table("0"), api.OK)
	check := func(p trip, i int, want api.Errno) {
		t.Helper()
		left, roads, e := Without(p.stops, p.roads, i)
		wantList(t, "Without", left, e, nil, want)
		wantTable(t, "Without", roads, e, nil, want)
	}
	for _, i := range ints(0, -1, 4, 9, math.MinInt, math.MaxInt) {
		check(p, i, api.ErrName)
		check(trip{nil, table("0")}, i, api.ErrName)
	}
	check(trip{nil, table("0")}, 1, api.ErrName)
	for _, p := range badTrips() {
		check(p, 1, api.ErrInvalid)
		check(p, 0, api.ErrInvalid)
	}
}

func TestWithoutLeavesTheRounds(t *testing.T) {
	r := sample()
	for range 300 {
		p := someTrip(r, 1+r.Intn(8), 90)
		i := 1 + r.Intn(len(p.stops))
		left, roads, e := Without(p.stops, p.roads, i)
		wantErrno(t, "Without", e, api.OK)
		if !Valid(left, roads) || len(left) != len(p.stops)-1 {
			t.Fatal("Without", i, "of", p, "is", left, roads)
		}
		renumbered := r.Perm(len(left))
		round := slices.Clone(renumbered)
		for k := range round {
			renumbered[k]++
			round[k]++
			if round[k] >= i {
				round[k]++
			}
		}
		_, wantOK, wantEnd := bruteRun(p, 0, round)
		_, ok, end := bruteRun(trip{left, roads}, 0, renumbered)
		if ok != wantOK || end != wantEnd {
			t.Fatal("Without", i, "of", p, "the round", round, "ends at", end)
		}
	}
}
