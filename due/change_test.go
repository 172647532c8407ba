package due

import (
	"math"
	"slices"
	"testing"

	"clinch/api"
)

// 7.4

func TestMoved(t *testing.T) {
	w, places, booking := windows("0..2 0..9 1..3 0..3"), ints(1, 2, 1, 0), ints(0, 1, 1, -1)
	for _, c := range []struct {
		what       string
		horse, day int
		want       []int
		e          api.Errno
	}{
		{"to a free day", 0, 2, ints(2, 1, 1, -1), api.OK},
		{"to the day that it has", 0, 0, ints(0, 1, 1, -1), api.OK},
		{"to the day that it has with others", 1, 1, ints(0, 1, 1, -1), api.OK},
		{"from a day with others", 2, 2, ints(0, 1, 2, -1), api.OK},
		{"not booked before", 3, 2, ints(0, 1, 1, 2), api.OK},
		{"a day with all places taken", 3, 0, nil, api.ErrState},
		{"another day with all places taken", 0, 1, nil, api.ErrState},
		{"a day without places", 3, 3, nil, api.ErrState},
		{"not in the window", 0, 3, nil, api.ErrRange},
		{"before the window", 2, 0, nil, api.ErrRange},
		{"none of the days", 1, 4, nil, api.ErrRange},
		{"below the days", 1, -1, nil, api.ErrRange},
		{"far above", 1, math.MaxInt, nil, api.ErrRange},
		{"far below", 1, math.MinInt, nil, api.ErrRange},
		{"no such horse", 4, 0, nil, api.ErrName},
		{"a horse below 0", -1, 0, nil, api.ErrName},
		{"no such horse and no such day", 4, -1, nil, api.ErrName},
		{"no such horse and a day without places", math.MaxInt, 3, nil, api.ErrName},
	} {
		moved, e := Moved(w, places, booking, c.horse, c.day)
		wantList(t, c.what, moved, e, c.want, c.e)
	}
	check := func(w []api.Window, places, booking []int) {
		t.Helper()
		for _, horse := range ints(0, -1, 100) {
			for _, day := range ints(0, -1) {
				moved, e := Moved(w, places, booking, horse, day)
				wantList(t, "Moved", moved, e, nil, api.ErrInvalid)
			}
		}
	}
	for _, bad := range badWindows() {
		check(bad, ints(1), alike(len(bad), -1))
	}
	for _, bad := range badPlaces() {
		check(windows("0..0"), bad, ints(-1))
	}
	for _, bad := range [][]int{nil, {0, 1, 1}, {0, 1, 1, -1, -1}, {0, 1, 1, 1}, {0, 0, 1, -1}, {0, 9, 1, -1}, {0, 1, 0, -1}, {-2, 1, 1, -1}} {
		check(w, places, bad)
	}
	moved, e := Moved(nil, ints(1), nil, 0, 0)
	wantList(t, "Moved without horses", moved, e, nil, api.ErrName)
}

func TestMovedAgainstBrute(t *testing.T) {
	r := sample()
	count := map[api.Errno]int{}
	for range 2000 {
		w, places := someWindows(r, 1+r.Intn(4), 4), somePlaces(r, 1+r.Intn(4), 0, 1, 1, 2)
		all := bruteAll(w, places)
		booking := all[r.Intn(len(all))]
		horse := r.Intn(len(w))
		day := w[horse].Lo - 1 + r.Intn(4)
		want, wantE := slices.Clone(booking), api.OK
		want[horse] = day
		if day < w[horse].Lo || day > w[horse].Hi || day >= len(places) {
			want, wantE = nil, api.ErrRange
		} else if !slices.ContainsFunc(all, func(other []int) bool { return slices.Equal(other, want) }) {
			want, wantE = nil, api.ErrState
		}
		moved, e := Moved(w, places, booking, horse, day)
		wantList(t, "Moved", moved, e, want, wantE)
		count[e]++
		if t.Failed() {
			t.Fatal("for", w, places, booking, horse, day)
		}
	}
	if count[api.OK] < 100 || count[api.ErrRange] < 100 || count[api.ErrState] < 100 {
		t.Error("too few of a kind:", count)
	}
}

// 7.5

func TestWindows(t *testing.T) {
	for _, c := range []struct {
		what        string
		last        []int
		least, most int
		want        []api.Window
		e           api.Errno
	}{
		{"no horses", nil, 0, 0, nil, api.OK},
		{"some horses", ints(0, 10, 10), 28, 42, windows("28..42 38..52 38..52"), api.OK},
		{"at once", ints(7), 0, 0, windows("7..7"), api.OK},
		{"the last day is cut", ints(99990, 99958, 99957), 28, 42, windows("100000..100000 99986..100000 99985..99999"), api.OK},
		{"both days are cut", ints(100000, 99999), 1, 2, windows("100000..100000 100000..100000"), api.OK},
		{"the greatest numbers", ints(100000, 0), 100000, 100000, windows("100000..100000 100000..100000"), api.OK},
		{"the widest", ints(0), 0, 100000, windows("0..100000"), api.OK},
		{"as many as can be", alike(64, 5), 1, 2, alike(64, api.Window{Lo: 6, Hi: 7}), api.OK},
		{"one too many", alike(65, 5), 1, 2, nil, api.ErrRange},
		{"many too many", alike(1000000, 5), 1, 2, nil, api.ErrRange},
		{"least above most", ints(5), 3, 2, nil, api.ErrRange},
		{"least above most without horses", nil, 3, 2, nil, api.ErrRange},
	} {
		w, e := Windows(c.last, c.least, c.most)
		wantList(t, c.what, w, e, c.want, c.e)
	}
	for _, n := range noDays {
		for _, last := range [][]int{nil, {0}, {n}} {
			w, e := Windows(last, n, 100000)
			wantList(t, "least", w, e, nil, api.ErrRange)
			w, e = Windows(last, 0, n)
			wantList(t, "most", w, e, nil, api.ErrRange)
			w, e = Windows(last, n, n)
			wantList(t, "both", w, e, nil, api.ErrRange)
		}
		for _, last := range [][]int{{n}, {0, n}, {n, 0}} {
			w, e := Windows(last, 1, 2)
			wantList(t, "a day", w, e, nil, api.ErrRange)
		}
	}
}

func TestLost(t *testing.T) {
	w := windows("5..9 0..0 100000..100000")
	for _, c := range []struct {
		what       string
		horse, day int
		want       []api.Window
		e          api.Errno
	}{
		{"before its window", 0, 3, windows("3..4 0..0 100000..100000"), api.OK},
		{"in its window", 0, 8, windows("8..9 0..0 100000..100000"), api.OK},
		{"behind its window", 1, 50, windows("5..9 50..51 100000..100000"), api.OK},
		{"on the first day", 2, 0, windows("5..9 0..0 0..1"), api.OK},
		{"just not cut", 1, 99999, windows("5..9 99999..100000 100000..100000"), api.OK},
		{"cut", 1, 100000, windows("5..9 100000..100000 100000..100000"), api.OK},
		{"a day below 0", 0, -1, nil, api.ErrRange},
		{"a day above", 0, 100001, nil, api.ErrRange},
		{"a day far above", 0, math.MaxInt, nil, api.ErrRange},
		{"a day far below", 0, math.MinInt, nil, api.ErrRange},
		{"no such horse", 3, 5, nil, api.ErrName},
		{"a horse below 0", -1, 5, nil, api.ErrName},
		{"no such horse and no such day", 3, -1, nil, api.ErrName},
	} {
		got, e := Lost(w, c.horse, c.day)
		wantList(t, c.what, got, e, c.want, c.e)
	}
	for _, bad := range badWindows() {
		for _, horse := range ints(0, -1, 1000000) {
			for _, day := range ints(0, -1) {
				got, e := Lost(bad, horse, day)
				wantList(t, "Lost", got, e, nil, api.ErrInvalid)
			}
		}
	}
	got, e := Lost(nil, 0, 0)
	wantList(t, "Lost without horses", got, e, nil, api.ErrName)
	got, e = Lost(alike(64, api.Window{Lo: 1, Hi: 2}), 63, 7)
	wantList(t, "Lost by the last horse", got, e, append(alike(63, api.Window{Lo: 1, Hi: 2}), api.Window{Lo: 7, Hi: 8}), api.OK)
}

func TestWeekdays(t *testing.T) {
	for _, c := range []struct {
		first, days, each int
		want              []int
	}{
		{0, 8, 3, ints(3, 3, 3, 3, 3, 0, 0, 3)},
		{1, 7, 1, ints(1, 1, 1, 1, 0, 0, 1)},
		{4, 4, 64, ints(64, 0, 0, 64)},
		{5, 3, 2, ints(0, 0, 2)},
		{6, 2, 2, ints(0, 2)},
		{5, 1, 2, ints(0)},
		{0, 1, 0, ints(0)},
		{3, 10, 5, ints(5, 5, 0, 0, 5, 5, 5, 5, 5, 0)},
	} {
		places, e := Weekdays(c.first, c.days, c.each)
		wantList(t, "Weekdays", places, e, c.want, api.OK)
	}
	for first := range 7 {
		places, e := Weekdays(first, 200, 9)
		wantErrno(t, "Weekdays", e, api.OK)
		if len(places) != 200 || !Valid(nil, places) {
			t.Fatal("Weekdays is", places)
		}
		for day, got := range places {
			want := 9
			if weekday := (first + day) % 7; weekday == 5 || weekday == 6 {
				want = 0
			}
			if got != want {
				t.Error("the day", day, "from the weekday", first, "has", got)
			}
		}
	}
	for _, c := range [][3]int{
		{-1, 7, 1}, {7, 7, 1}, {math.MinInt, 7, 1}, {math.MaxInt, 7, 1},
		{0, 0, 1}, {0, -1, 1}, {0, 201, 1}, {0, math.MinInt, 1}, {0, math.MaxInt, 1},
		{0, 7, -1}, {0, 7, 65}, {0, 7, math.MinInt}, {0, 7, math.MaxInt}, {-1, 0, -1},
	} {
		places, e := Weekdays(c[0], c[1], c[2])
		wantList(t, "Weekdays", places, e, nil, api.ErrRange)
	}
}
