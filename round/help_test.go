package round

import (
	"math"
	"math/rand"
	"slices"
	"strconv"
	"strings"
	"testing"

	"clinch/api"
)

var extremes = []int{math.MinInt, math.MinInt + 1, -1441, -601, -1, 0, 1, 2, 8, 9, 10, 600, 601, 1440, 1441, 1 << 32, math.MaxInt - 1, math.MaxInt}

// Numbers that are none of what they should be.
var (
	noMinutes = ints(-1, 1441, math.MinInt, math.MaxInt)
	noTimes   = ints(-1, 601, math.MinInt, math.MaxInt)
)

// trip is stops and the roads between them.
type trip struct {
	stops []api.Stop
	roads [][]int
}

// example is that of the chapter.
func example() trip {
	return trip{yards("60..100+30 0..40+20"), even(2, 10)}
}

func ints(l ...int) []int {
	return l
}

func sample() *rand.Rand {
	return rand.New(rand.NewSource(8))
}

// yards are the stops of a text like "60..100+30 0..40+20".
func yards(text string) []api.Stop {
	var l []api.Stop
	for _, word := range strings.Fields(text) {
		times, job, _ := strings.Cut(word, "+")
		open, end, _ := strings.Cut(times, "..")
		l = append(l, api.Stop{Open: number(open), Close: number(end), Job: number(job)})
	}
	return l
}

// table is the roads of a text like "0 10/10 0".
func table(text string) [][]int {
	var l [][]int
	for _, line := range strings.Split(text, "/") {
		var row []int
		for _, word := range strings.Fields(line) {
			row = append(row, number(word))
		}
		l = append(l, row)
	}
	return l
}

func number(word string) int {
	n, err := strconv.Atoi(word)
	if err != nil {
		panic(word)
	}
	return n
}

// even is roads between so many stops and the forge that all take the same time.
func even(count, minutes int) [][]int {
	l := make([][]int, count+1)
	for i := range l {
		l[i] = alike(count+1, minutes)
		l[i][i] = 0
	}
	return l
}

// alike is the same thing so many times.
func alike[T any](count int, x T) []T {
	return slices.Repeat([]T{x}, count)
}

// badRoads has roads for each way of not being such for any number of stops.
func badRoads() [][][]int {
	list := [][][]int{nil, {}, {nil}, {{0, 0}}, {{0}, {0}}, even(9, 1), make([][]int, 1000000), alike(1000000, ints(0)), table("0 1/1 0/1 1"), table("0 1 1/1 0 1"), table("0 1/1 0 1"), table("0 1/1"), table("0/1 0"), table("0 1 1/1 0/1 1 0")}
	for _, n := range noTimes {
		list = append(list, [][]int{{0, n}, {5, 0}}, [][]int{{0, 5}, {n, 0}}, [][]int{{n}})
		last := even(8, 600)
		last[8][7] = n
		list = append(list, last)
	}
	for i := range 3 {
		here := even(2, 10)
		here[i][i] = 1
		list = append(list, here)
	}
	return list
}

// badTrips has stops and roads for each way of not being valid.
func badTrips() []trip {
	list := []trip{
		{nil, even(1, 5)},
		{yards("0..5+5"), even(0, 5)},
		{yards("0..5+5"), even(2, 5)},
		{yards("0..5+5 0..5+5"), even(1, 5)},
		{alike(9, api.Stop{}), even(8, 5)},
		{alike(9, api.Stop{}), even(9, 5)},
		{make([]api.Stop, 1000000), even(8, 5)},
		{yards("6..5+5"), even(1, 5)},
		{yards("1440..0+5"), even(1, 5)},
		{yards("0..5+5 0..5+5 9..8+0"), even(3, 5)},
	}
	for _, l := range badRoads() {
		list = append(list, trip{nil, l}, trip{alike(max(0, min(len(l)-1, 8)), api.Stop{}), l})
	}
	for _, n := range noMinutes {
		list = append(list, trip{[]api.Stop{{Open: n, Close: 5}}, even(1, 5)}, trip{[]api.Stop{{Open: 5, Close: n}}, even(1, 5)}, trip{[]api.Stop{{}, {Open: n, Close: n}}, even(2, 5)})
	}
	for _, n := range noTimes {
		list = append(list, trip{[]api.Stop{{Close: 5, Job: n}}, even(1, 5)}, trip{[]api.Stop{{Close: 5}, {Close: 5, Job: n}}, even(2, 5)})
	}
	return list
}

// badRounds are rounds of two stops that have errors.
var badRounds = []struct {
	round []int
	e     api.Errno
}{
	{ints(0), api.ErrName},
	{ints(3), api.ErrName},
	{ints(-1), api.ErrName},
	{ints(1, 2, 0), api.ErrName},
	{ints(2, math.MaxInt), api.ErrName},
	{ints(math.MinInt, 1), api.ErrName},
	{ints(64, 65, 1<<32), api.ErrName},
	{ints(1, 1, 3), api.ErrName},
	{ints(3, 3), api.ErrName},
	{ints(1, 1), api.ErrDuplicate},
	{ints(2, 1, 2), api.ErrDuplicate},
	{ints(1, 2, 2, 1), api.ErrDuplicate},
	{make([]int, 1000000), api.ErrName},
	{alike(1000000, 2), api.ErrDuplicate},
}

// someTrip has so many stops that are open for up to so many minutes.
func someTrip(r *rand.Rand, count, wide int) trip {
	var p trip
	for range count {
		open := r.Intn(60)
		p.stops = append(p.stops, api.Stop{Open: open, Close: open + r.Intn(wide+1), Job: r.Intn(15)})
	}
	p.roads = even(count, 0)
	for i, row := range p.roads {
		for j := range row {
			if i != j {
				row[j] = r.Intn(20)
			}
		}
	}
	return p
}

// bruteRun runs a round by the chapter's words.
func bruteRun(p trip, start int, round []int) (visits []api.Visit, possible bool, end int) {
	possible = true
	place, now := 0, start
	for _, stop := range round {
		x := p.stops[stop-1]
		arrive := now + p.roads[place][stop]
		begin := arrive
		if begin < x.Open {
			begin = x.Open
		}
		if begin > x.Close {
			possible = false
		}
		now = begin + x.Job
		place = stop
		visits = append(visits, api.Visit{Stop: stop, Arrive: arrive, Begin: begin, End: now})
	}
	return visits, possible, now + p.roads[place][0]
}

// bruteRounds has all rounds of so many stops.
func bruteRounds(count int) [][]int {
	list := [][]int{nil}
	for i := 0; i < len(list); i++ {
		for stop := 1; stop <= count; stop++ {
			if !slices.Contains(list[i], stop) {
				list = append(list, append(slices.Clone(list[i]), stop))
			}
		}
	}
	return list
}

// brutePossible has all possible rounds, the greatest last: those with more stops, with an earlier end, that come first.
func brutePossible(p trip, start int) [][]int {
	possible := slices.DeleteFunc(bruteRounds(len(p.stops)), func(round []int) bool {
		_, ok, _ := bruteRun(p, start, round)
		return !ok
	})
	slices.SortFunc(possible, func(a, b []int) int {
		_, _, endA := bruteRun(p, start, a)
		_, _, endB := bruteRun(p, start, b)
		switch {
		case len(a) != len(b):
			return len(a) - len(b)
		case endA != endB:
			return endB - endA
		}
		return slices.Compare(b, a)
	})
	return possible
}

func sorted(l []int) []int {
	return slices.Sorted(slices.Values(l))
}

// bruteAgainst looks at all sets of stops.
func bruteAgainst(p trip, possible [][]int) []int {
	var against []int
	for bits := range 1 << len(p.stops) {
		var stops []int
		for i := range p.stops {
			if bits>>i&1 == 1 {
				stops = append(stops, i+1)
			}
		}
		if slices.ContainsFunc(possible, func(round []int) bool { return slices.Equal(sorted(round), stops) }) {
			continue
		}
		if against == nil || len(stops) < len(against) || len(stops) == len(against) && slices.Compare(stops, against) < 0 {
			against = stops
		}
	}
	return against
}

// bruteBefore looks at all rounds of all stops for each pair.
func bruteBefore(p trip, all [][]int) [][2]int {
	var before [][2]int
	for i := 1; i <= len(p.stops); i++ {
		for j := 1; j <= len(p.stops); j++ {
			if i != j && !slices.ContainsFunc(all, func(round []int) bool { return slices.Index(round, j) < slices.Index(round, i) }) {
				before = append(before, [2]int{i, j})
			}
		}
	}
	return before
}

// bruteShorter asks for the time of each way without a place twice.
func bruteShorter(roads [][]int) [][]int {
	shorter := even(len(roads)-1, math.MaxInt)
	var walk func(from, at, minutes int, been []int)
	walk = func(from, at, minutes int, been []int) {
		shorter[from][at] = min(shorter[from][at], minutes)
		for to := range roads {
			if !slices.Contains(been, to) {
				walk(from, to, minutes+roads[at][to], append(slices.Clone(been), to))
			}
		}
	}
	for from := range roads {
		walk(from, from, 0, ints(from))
	}
	return shorter
}

func wantErrno(t *testing.T, what string, got, want api.Errno) {
	t.Helper()
	if got != want {
		t.Errorf("%s: errno %d, want %d", what, got, want)
	}
}

// wantList also holds a list that comes with an error against nothing.
func wantList[T comparable](t *testing.T, what string, got []T, e api.Errno, want []T, wantE api.Errno) {
	t.Helper()
	wantErrno(t, what, e, wantE)
	if !slices.Equal(got, want) {
		t.Errorf("%s: %v, want %v", what, got, want)
	}
}

// wantValue also holds a value that comes with an error against zero.
func wantValue[T comparable](t *testing.T, what string, got T, e api.Errno, want T, wantE api.Errno) {
	t.Helper()
	wantErrno(t, what, e, wantE)
	if got != want {
		t.Errorf("%s: %v, want %v", what, got, want)
	}
}

// wantTable also holds roads that come with an error against nothing.
func wantTable(t *testing.T, what string, got [][]int, e api.Errno, want [][]int, wantE api.Errno) {
	t.Helper()
	wantErrno(t, what, e, wantE)
	if !equal(got, want) {
		t.Errorf("%s: %v, want %v", what, got, want)
	}
}

func equal(a, b [][]int) bool {
	return slices.EqualFunc(a, b, slices.Equal)
}
