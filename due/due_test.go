package due

import (
	"math"
	"slices"
	"testing"

	"clinch/api"
)

// 7.1

func TestValid(t *testing.T) {
	for _, c := range []struct {
		w      []api.Window
		places []int
	}{
		{nil, ints(0)},
		{[]api.Window{}, ints(64)},
		{windows("0..0"), ints(1)},
		{windows("100000..100000 0..100000"), ints(0)},
		{windows("5..5 7..9 3..4"), ints(1, 0, 64)},
		{alike(64, api.Window{Lo: 0, Hi: 1}), alike(200, 64)},
	} {
		if !Valid(c.w, c.places) {
			t.Error("not valid:", c.w, c.places)
		}
	}
	for _, w := range badWindows() {
		if Valid(w, ints(1)) || Valid(w, nil) {
			t.Error("valid:", w[:min(len(w), 5)])
		}
	}
	for _, places := range badPlaces() {
		if Valid(nil, places) || Valid(windows("0..1"), places) {
			t.Error("valid:", places[:min(len(places), 5)])
		}
	}
}

func TestRight(t *testing.T) {
	w, places := windows("0..1 0..1 1..3 2..9"), ints(1, 2, 1)
	for _, booking := range [][]int{{0, 1, 1, 2}, {1, 0, 1, 2}, {1, 1, 2, -1}, {-1, -1, -1, -1}, {-1, 0, 2, -1}} {
		if !Right(w, places, booking) {
			t.Error("not right:", booking)
		}
	}
	for _, booking := range [][]int{
		nil, {}, {0}, {0, 1, 1}, {0, 1, 1, 2, -1}, {-1, -1, -1, -1, -1}, // the wrong number of horses
		{2, -1, -1, -1}, {-1, -1, 0, -1}, {-1, -1, -1, 1}, // not in the window
		{-1, -1, 3, -1}, {-1, -1, -1, 3}, {-1, -1, -1, 9}, {-1, -1, -1, 10}, // none of the days
		{0, 0, -1, -1}, {1, 1, 1, -1}, {-1, -1, 2, 2}, // too few places
		{-2, -1, -1, -1}, {-1, -1, -1, math.MinInt}, {-1, math.MaxInt, -1, -1},
	} {
		if Right(w, places, booking) {
			t.Error("right:", booking)
		}
	}
	if !Right(nil, ints(0), nil) || Right(nil, ints(0), ints(-1)) || Right(windows("0..0"), ints(0), ints(0)) {
		t.Error("bookings without horses or places")
	}
	beyond := windows("200..300 3..3")
	if !Right(beyond, ints(1, 1, 1), ints(-1, -1)) || Right(beyond, ints(1, 1, 1), ints(200, -1)) || Right(beyond, ints(1, 1, 1), ints(-1, 3)) {
		t.Error("bookings of windows beyond the days")
	}
	for _, w := range badWindows() {
		if Right(w, ints(1), alike(len(w), -1)) {
			t.Error("right with wrong windows:", w[:min(len(w), 5)])
		}
	}
	for _, places := range badPlaces() {
		if Right(windows("0..1"), places, ints(-1)) || Right(nil, places, nil) {
			t.Error("right with wrong places:", places[:min(len(places), 5)])
		}
	}
}

func TestRightAgainstBrute(t *testing.T) {
	r := sample()
	count := map[bool]int{}
	for range 300 {
		w, places := someWindows(r, 1+r.Intn(3), 4), somePlaces(r, 1+r.Intn(4), 0, 1, 1, 2)
		right := map[[3]int]bool{}
		for _, booking := range bruteAll(w, places) {
			right[[3]int(append(booking, 0, 0)[:3])] = true
		}
		for n := range 343 { // each number of a booking from -2 to 4
			booking := ints(n%7-2, n/7%7-2, n/49-2)[:len(w)]
			got := Right(w, places, booking)
			if got != right[[3]int(append(slices.Clone(booking), 0, 0)[:3])] {
				t.Fatal("Right is", got, "for", w, places, booking)
			}
			count[got]++
		}
	}
	if count[true] < 1000 || count[false] < 1000 {
		t.Error("too few of a kind:", count)
	}
}

func TestFull(t *testing.T) {
	for _, booking := range [][]int{nil, {}, {0}, {5, 0, 100000}, {-2}, {math.MinInt, math.MaxInt}, alike(100000, 7)} {
		if !Full(booking) {
			t.Error("not full:", booking[:min(len(booking), 5)])
		}
	}
	for _, booking := range [][]int{{-1}, {-1, 0}, {0, -1}, {3, -1, 4}, append(alike(100000, 7), -1)} {
		if Full(booking) {
			t.Error("full:", booking[:min(len(booking), 5)])
		}
	}
}

func TestLoad(t *testing.T) {
	for _, c := range []struct {
		places, booking, want []int
		e                     api.Errno
	}{
		{ints(1), nil, ints(0), api.OK},
		{ints(1, 1), ints(-1, -1, -1), ints(0, 0), api.OK},
		{ints(1, 2, 1), ints(0, 1, 1, -1, 2), ints(1, 2, 1), api.OK},
		{ints(0, 0), ints(1, 1, 1), ints(0, 3), api.OK}, // more than places
		{ints(5), alike(100000, 0), ints(100000), api.OK},
		{alike(200, 64), ints(199, 0), append(append(ints(1), make([]int, 198)...), 1), api.OK},
		{ints(1, 1), ints(2), nil, api.ErrRange},
		{ints(1, 1), ints(0, -2), nil, api.ErrRange},
		{ints(1, 1), ints(0, math.MaxInt, -2), nil, api.ErrRange},
		{alike(200, 64), ints(200), nil, api.ErrRange},
		{ints(1), ints(math.MinInt), nil, api.ErrRange},
	} {
		load, e := Load(c.places, c.booking)
		wantList(t, "Load", load, e, c.want, c.e)
	}
	for _, places := range badPlaces() {
		for _, booking := range [][]int{nil, {0}, {-1}, {-2}, {1000}} {
			load, e := Load(places, booking)
			wantList(t, "Load with wrong places", load, e, nil, api.ErrInvalid)
		}
	}
}

// P7.5

func TestLoadAddsUp(t *testing.T) {
	r := sample()
	for range 2000 {
		w, places := someWindows(r, r.Intn(64), 20), somePlaces(r, 1+r.Intn(20), 0, 1, 2, 3)
		booking, e := Most(w, places)
		wantErrno(t, "Most", e, api.OK)
		load, e := Load(places, booking)
		wantErrno(t, "Load", e, api.OK)
		sum := 0
		for day, horses := range load {
			sum += horses
			if horses > places[day] {
				t.Fatal("too many horses on", day, "of", booking, places)
			}
		}
		if sum != bruteCount(booking) {
			t.Fatal("the load is", load, "of", booking)
		}
	}
}
