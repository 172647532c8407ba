package due

import (
	"slices"
	"strings"
	"testing"

	"clinch/api"
)

// P7.1 and P1 (R1, R4, R7)

// arguments are what functions are called with.
type arguments struct {
	windows                       []api.Window
	places, booking, last         []int
	stretch                       api.Full
	horse, day, least, most, each int
	text                          string
}

// results are the lists that calls return.
type results struct {
	windows [][]api.Window
	numbers [][]int
}

// everyCall calls all functions.
func everyCall(a arguments) results {
	Valid(a.windows, a.places)
	Right(a.windows, a.places, a.booking)
	Full(a.booking)
	TooFull(a.windows, a.places, a.stretch)
	Stuck(a.windows, a.places)
	Missed(a.windows, a.places)
	Earliest(a.windows, a.places, a.horse)
	book, _ := Book(a.windows, a.places)
	most, _ := Most(a.windows, a.places)
	forced, _ := Forced(a.windows, a.places)
	spare, _ := Spare(a.windows, a.places)
	load, _ := Load(a.places, a.booking)
	moved, _ := Moved(a.windows, a.places, a.booking, a.horse, a.day)
	same, _ := Moved(a.windows, a.places, most, a.horse, a.day)
	weekdays, _ := Weekdays(a.day, a.most, a.each)
	windows, _ := Windows(a.last, a.least, a.most)
	lost, _ := Lost(a.windows, a.horse, a.day)
	parsed, _, _ := Parse(Format(a.windows))
	other, _, _ := Parse(a.text)
	return results{
		windows: [][]api.Window{windows, lost, parsed, other},
		numbers: [][]int{book, most, forced, spare, load, moved, same, weekdays},
	}
}

func TestEveryCallEnds(t *testing.T) {
	r := sample()
	number := func(most int) int {
		if r.Intn(4) == 0 {
			return extremes[r.Intn(len(extremes))]
		}
		return r.Intn(most + 1)
	}
	texts := []string{"", "\n", "0 1\n", "0 1", "1 0\n", "\xff", "\x00", " ", "9"}
	for range 10000 {
		a := arguments{windows: someWindows(r, r.Intn(6), 8), places: somePlaces(r, r.Intn(8), 0, 1, 2, 64), stretch: api.Full{From: number(8), To: number(8)}, horse: number(5), day: number(8), least: number(5), most: number(20), each: number(64), text: texts[r.Intn(len(texts))]}
		a.booking, _ = Most(a.windows, a.places)
		for range r.Intn(3) {
			a.last = append(a.last, number(100))
			if r.Intn(3) == 0 {
				a.windows = append(a.windows, api.Window{Lo: number(8), Hi: number(8)})
			}
			if r.Intn(3) == 0 {
				a.places = append(a.places, number(64))
			}
			if r.Intn(3) == 0 {
				a.booking = append(a.booking, number(8)-1)
			}
		}
		everyCall(a)
	}
	everyCall(arguments{windows: make([]api.Window, 1000000), places: make([]int, 1000000), booking: make([]int, 1000000), last: make([]int, 1000000), text: strings.Repeat("0 0\n", 1000000)})
	everyCall(arguments{windows: make([]api.Window, 64), places: alike(200, 1), booking: make([]int, 1000000), last: make([]int, 1000000), stretch: api.Full{To: api.MaxDay}, text: strings.Repeat("0 0\n", 16384)})
}

// withSpare is a copy of a list that has room behind it, with something in it.
func withSpare[T any](l []T, filling T) (part, all []T) {
	all = append(slices.Clone(l), filling, filling, filling)
	return all[:len(l)], all
}

func TestArgumentsStayAndResultsAreNew(t *testing.T) {
	for _, c := range []arguments{
		{windows: windows("0..2 0..0 1..5"), places: ints(1, 2, 1), booking: ints(1, 0, -1), last: ints(5, 7), horse: 2, day: 2, least: 2, most: 9, each: 4, text: "0 1\n2 3\n"},
		{windows: windows("0..1 0..1 0..1"), places: ints(1, 1), booking: ints(-1, -1, -1), last: ints(99999), horse: 0, day: 1, least: 1, most: 200, each: 64, text: "0 1\n"},
		{windows: someWindows(sample(), 64, 199), places: alike(200, 1), booking: alike(64, -1), last: alike(64, 5), horse: 63, day: 3, least: 1, most: 7, each: 64, text: strings.Repeat("0 1\n", 64)},
		{windows: alike(63, api.Window{Lo: 0, Hi: 3}), places: alike(5, 64), booking: alike(63, 0), last: alike(63, 5), horse: 0, day: 0, most: 100000, text: "0 0\n"},
		{windows: windows("3..9 1..0"), places: ints(1, -1), booking: ints(3, 4), last: ints(-1), horse: 1, day: 5, text: "x"},
		{},
	} {
		a := c
		var allWindows []api.Window
		var allPlaces, allBooking, allLast []int
		a.windows, allWindows = withSpare(a.windows, api.Window{Lo: 77, Hi: 78})
		a.places, allPlaces = withSpare(a.places, 55)
		a.booking, allBooking = withSpare(a.booking, 56)
		a.last, allLast = withSpare(a.last, 57)
		kept := results{windows: [][]api.Window{allWindows}, numbers: [][]int{allPlaces, allBooking, allLast}}
		before := cloned(kept)
		check := func(what string) {
			t.Helper()
			if !same(kept, before) {
				t.Fatal(what, "the arguments have become", kept)
			}
		}
		got := everyCall(a)
		check("after the calls")
		wants := cloned(got)
		again := everyCall(a)
		if !same(again, wants) {
			t.Fatal("the same calls return", again)
		}
		// What is written to one result, also behind its end, shows nowhere else.
		overwrite(t, got.windows, wants.windows, api.Window{Lo: -99, Hi: -99})
		overwrite(t, got.numbers, wants.numbers, -99)
		check("after the results were changed")
		if !same(again, wants) || !same(everyCall(a), wants) {
			t.Fatal("results of two calls share memory")
		}
	}
}

func overwrite[T comparable](t *testing.T, lists, wants [][]T, filling T) {
	t.Helper()
	for i, l := range lists {
		if !slices.Equal(l, wants[i]) {
			t.Fatal("results share memory:", i)
		}
		l = l[:cap(l)]
		for j := range l {
			l[j] = filling
		}
	}
}

func same(a, b results) bool {
	return slices.EqualFunc(a.windows, b.windows, slices.Equal) && slices.EqualFunc(a.numbers, b.numbers, slices.Equal)
}

func cloned(r results) results {
	return results{windows: clonedLists(r.windows), numbers: clonedLists(r.numbers)}
}

func clonedLists[T any](lists [][]T) [][]T {
	var out [][]T
	for _, l := range lists {
		out = append(out, slices.Clone(l))
	}
	return out
}
