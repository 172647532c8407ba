package due

import (
	"math"
	"slices"
	"testing"
	"time"

	"clinch/api"
)

// 7.2

func TestBook(t *testing.T) {
	for _, c := range []struct {
		what   string
		w      string
		places []int
		want   []int
		e      api.Errno
	}{
		{"the example", "0..2 0..0", ints(1, 1, 1), ints(1, 0), api.OK},
		{"no horses", "", ints(0), nil, api.OK},
		{"three horses, two places", "0..1 0..1 0..1", ints(1, 1), nil, api.ErrNone},
		{"the same end: by number", "0..1 0..1 0..1", ints(1, 2), ints(0, 1, 1), api.OK},
		{"the end, not the beginning", "0..3 1..2 0..3", ints(1, 1, 1), ints(0, 1, 2), api.OK},
		{"the end, not the number", "0..9 0..5 0..1", ints(1, 1, 1), ints(2, 1, 0), api.OK},
		{"a late one comes before those that wait", "0..5 0..4 1..1", ints(0, 1, 1, 1), ints(3, 2, 1), api.OK},
		{"several places on a day", "0..5 0..4 0..3 0..2", ints(2, 0, 2), ints(2, 2, 0, 0), api.OK},
		{"a day without places", "0..2 0..2", ints(0, 0, 2), ints(2, 2), api.OK},
		{"places that are too late", "0..1 0..1", ints(1, 0, 64), nil, api.ErrNone},
		{"a window beyond the days", "0..0 3..5", ints(64, 64, 64), nil, api.ErrNone},
		{"a window that reaches beyond the days", "2..100000 0..0", ints(1, 0, 1), ints(2, 0), api.OK},
		{"the end counts also beyond the days", "1..7 1..6 0..5", ints(1, 1, 1), ints(2, 1, 0), api.OK},
	} {
		booking, e := Book(windows(c.w), c.places)
		wantList(t, c.what, booking, e, c.want, c.e)
	}
	booking, e := Book(alike(64, api.Window{Lo: 199, Hi: 199}), append(make([]int, 199), 64))
	wantList(t, "all on the last day", booking, e, alike(64, 199), api.OK)
	booking, e = Book(alike(64, api.Window{Lo: 199, Hi: 199}), append(make([]int, 199), 63))
	wantList(t, "one too many on the last day", booking, e, nil, api.ErrNone)
}

func TestTooFull(t *testing.T) {
	w, places := windows("0..1 0..1 0..1 3..3 5..9"), ints(1, 1, 4, 1)
	for _, c := range []struct {
		f    api.Full
		want bool
	}{
		{api.Full{From: 0, To: 1}, true},
		{api.Full{From: 0, To: 0}, false},
		{api.Full{From: 1, To: 1}, false},
		{api.Full{From: 0, To: 2}, false},
		{api.Full{From: 3, To: 3}, false},
		{api.Full{From: 5, To: 9}, true},
		{api.Full{From: 5, To: 8}, false},
		{api.Full{From: 6, To: 9}, false},
		{api.Full{From: 4, To: 100000}, true},
		{api.Full{From: 3, To: 100000}, true}, // two horses, one place
		{api.Full{From: 2, To: 100000}, false},
		{api.Full{From: 0, To: 100000}, false},
		{api.Full{From: 100000, To: 100000}, false},
		{api.Full{From: 1, To: 0}, false},
		{api.Full{From: 0, To: -1}, false},
		{api.Full{From: -1, To: 1}, false},
		{api.Full{From: math.MinInt, To: 1}, false},
		{api.Full{From: 5, To: 100001}, false},
		{api.Full{From: 5, To: math.MaxInt}, false},
	} {
		if got := TooFull(w, places, c.f); got != c.want {
			t.Error("TooFull of", c.f, "is", got)
		}
	}
	wide := api.Full{From: 0, To: 100000}
	if !TooFull(windows("100000..100000 0..0"), ints(1), wide) || TooFull(nil, ints(0), wide) {
		t.Error("TooFull of all days")
	}
	for _, w := range badWindows() {
		if TooFull(w, ints(0), wide) {
			t.Error("too full with wrong windows:", w[:min(len(w), 5)])
		}
	}
	for _, places := range badPlaces() {
		if TooFull(windows("100..100"), places, wide) {
			t.Error("too full with wrong places:", places[:min(len(places), 5)])
		}
	}
}

func TestStuck(t *testing.T) {
	for _, c := range []struct {
		what   string
		w      string
		places []int
		want   api.Full
		e      api.Errno
	}{
		{"the example", "0..1 0..1 0..1", ints(1, 1), api.Full{From: 0, To: 1}, api.OK},
		{"no horses", "", ints(0), api.Full{}, api.ErrNone},
		{"a full booking", "0..2 0..0", ints(1, 1, 1), api.Full{}, api.ErrNone},
		{"only the middle", "0..9 2..3 2..3 2..3", ints(1, 1, 1, 1, 1), api.Full{From: 2, To: 3}, api.OK},
		{"from one window to another's end", "1..2 1..3 2..3 3..3", ints(1, 1, 1, 1, 1), api.Full{From: 1, To: 3}, api.OK},
		{"the least From", "4..5 1..1", ints(0), api.Full{From: 1, To: 1}, api.OK},
		{"the least From has the greater To", "3..3 1..9", ints(5), api.Full{From: 1, To: 3}, api.OK},
		{"the least To", "1..9 1..8 1..7", ints(0, 1), api.Full{From: 1, To: 8}, api.OK},
		{"a window beyond the days", "0..0 3..5", ints(64, 64, 64), api.Full{From: 3, To: 5}, api.OK},
		{"the last day of all", "100000..100000", ints(64), api.Full{From: 100000, To: 100000}, api.OK},
		{"days without places", "0..2", ints(0, 0, 0), api.Full{From: 0, To: 2}, api.OK},
	} {
		f, e := Stuck(windows(c.w), c.places)
		wantValue(t, c.what, f, e, c.want, c.e)
	}
}

// 7.3

func TestMost(t *testing.T) {
	for _, c := range []struct {
		what   string
		w      string
		places []int
		want   []int
	}{
		{"the example", "0..1 0..1 0..1", ints(1, 1), ints(0, 1, -1)},
		{"no horses", "", ints(0), nil},
		{"no places", "0..1 0..0", ints(0, 0), ints(-1, -1)},
		{"the first horse waits for the most", "0..1 0..0", ints(1, 1), ints(1, 0)},
		{"the first horses, not those with the earliest end", "0..5 0..1 0..0", ints(1, 1), ints(0, 1, -1)},
		{"booked rather than early", "0..1 0..1 0..0", ints(1, 1), ints(0, 1, -1)},
		{"the earliest day, not the first one that ends", "0..1 0..5", ints(1, 1), ints(0, 1)},
		{"the earliest day of a full booking", "0..5 0..1", ints(1, 1), ints(0, 1)},
		{"the most horses come before the first one's day", "0..9 0..1 0..1", ints(1, 1, 0, 1), ints(3, 0, 1)},
		{"a window beyond the days", "7..9 0..1", ints(1, 1), ints(-1, 0)},
		{"a window that reaches beyond the days", "1..100000 1..1", ints(1, 1, 1), ints(2, 1)},
		{"one day for many", "0..0 0..0 0..0", ints(2, 64), ints(0, 0, -1)},
		{"a day without places is not taken", "0..2 0..2", ints(0, 1, 0), ints(1, -1)},
	} {
		booking, e := Most(windows(c.w), c.places)
		wantList(t, c.what, booking, e, c.want, api.OK)
		missed, e := Missed(windows(c.w), c.places)
		wantValue(t, "Missed: "+c.what, missed, e, len(c.want)-bruteCount(c.want), api.OK)
	}
	booking, e := Most(alike(64, api.Window{Lo: 0, Hi: 99}), alike(50, 1))
	first := alike(64, -1)
	for horse := range 50 {
		first[horse] = horse
	}
	wantList(t, "fifty of sixty-four", booking, e, first, api.OK)
}

// 7.4

func TestEarliest(t *testing.T) {
	for _, c := range []struct {
		what   string
		w      string
		places []int
		want   []int
	}{
		{"one horse", "3..7", alike(10, 1), ints(3)},
		{"days without places", "1..7", ints(1, 0, 0, 0, 1), ints(4)},
		{"the example", "0..2 0..0", ints(1, 1, 1), ints(1, 0)},
		{"each can be the first", "0..2 0..2 0..2", ints(1, 1, 1), ints(0, 0, 0)},
		{"behind two that need the first days", "0..3 0..1 0..1", ints(1, 1, 0, 1), ints(3, 0, 0)},
		{"a day of another one lies between", "0..2 1..1 0..0", ints(1, 1, 1), ints(2, 1, 0)},
		{"several places", "0..1 0..0 0..0", ints(3, 1), ints(0, 0, 0)},
		{"one place too few", "0..1 0..0 0..0", ints(2, 1), ints(1, 0, 0)},
	} {
		for horse, want := range c.want {
			day, e := Earliest(windows(c.w), c.places, horse)
			wantValue(t, c.what, day, e, want, api.OK)
		}
	}
}

func TestForced(t *testing.T) {
	for _, c := range []struct {
		what   string
		w      string
		places []int
		want   []int
		e      api.Errno
	}{
		{"the example", "0..2 0..0", ints(1, 1, 1), ints(-1, 0), api.OK},
		{"no horses", "", ints(1), nil, api.OK},
		{"one day has places", "0..5", ints(0, 0, 0, 7, 0, 0), ints(3), api.OK},
		{"one day is left", "0..1 0..0", ints(1, 1), ints(1, 0), api.OK},
		{"one of the days is left by two", "0..2 0..1 0..1", ints(1, 1, 1), ints(2, -1, -1), api.OK},
		{"the first and the last day", "0..2 1..1", ints(1, 1, 1), ints(-1, 1), api.OK},
		{"the window reaches beyond the days", "2..9", ints(1, 1, 1), ints(2), api.OK},
		{"no full booking", "0..0 0..0", ints(1, 1), nil, api.ErrNone},
	} {
		forced, e := Forced(windows(c.w), c.places)
		wantList(t, c.what, forced, e, c.want, c.e)
	}
}

func TestSpare(t *testing.T) {
	for _, c := range []struct {
		what   string
		w      string
		places []int
		want   []int
		e      api.Errno
	}{
		{"no horses", "", ints(3, 0, 64), ints(3, 0, 64), api.OK},
		{"each day alone", "0..1", ints(1, 1), ints(1, 1), api.OK},
		{"one of two is needed", "0..1 0..1", ints(2, 1), ints(1, 1), api.OK},
		{"all are needed", "0..1 0..1 0..1", ints(2, 1), ints(0, 0), api.OK},
		{"by several at once", "0..1 0..0", ints(5, 3, 2), ints(4, 3, 2), api.OK},
		{"the example", "0..2 0..0", ints(1, 1, 1), ints(0, 1, 1), api.OK},
		{"no full booking", "0..0 0..0", ints(1, 1), nil, api.ErrNone},
	} {
		spare, e := Spare(windows(c.w), c.places)
		wantList(t, c.what, spare, e, c.want, c.e)
	}
}

// TestErrorsOfBookings holds the errors of all calls that look for bookings against each other.
func TestErrorsOfBookings(t *testing.T) {
	check := func(w []api.Window, places []int, horse int, book, stuck, most, earliest api.Errno) {
		t.Helper()
		for what, call := range map[string]func([]api.Window, []int) ([]int, api.Errno){"Book": Book, "Forced": Forced, "Spare": Spare} {
			list, e := call(w, places)
			wantList(t, what, list, e, nil, book)
		}
		f, e := Stuck(w, places)
		if wantErrno(t, "Stuck", e, stuck); e != api.OK {
			wantValue(t, "Stuck", f, e, api.Full{}, stuck)
		}
		list, e := Most(w, places)
		if wantErrno(t, "Most", e, most); e != api.OK {
			wantList(t, "Most", list, e, nil, most)
		}
		n, e := Missed(w, places)
		if wantErrno(t, "Missed", e, most); e != api.OK {
			wantValue(t, "Missed", n, e, 0, most)
		}
		day, e := Earliest(w, places, horse)
		wantValue(t, "Earliest", day, e, 0, earliest)
	}
	for _, horse := range ints(-1, 0, 1, 64) {
		for _, w := range badWindows() {
			check(w, ints(0), horse, api.ErrInvalid, api.ErrInvalid, api.ErrInvalid, api.ErrInvalid)
			check(w, nil, horse, api.ErrInvalid, api.ErrInvalid, api.ErrInvalid, api.ErrInvalid)
		}
		for _, places := range badPlaces() {
			check(windows("0..0"), places, horse, api.ErrInvalid, api.ErrInvalid, api.ErrInvalid, api.ErrInvalid)
			check(nil, places, horse, api.ErrInvalid, api.ErrInvalid, api.ErrInvalid, api.ErrInvalid)
		}
	}
	for _, horse := range ints(0, 1) {
		check(windows("0..0 0..0"), ints(1), horse, api.ErrNone, api.OK, api.OK, api.ErrNone)
	}
	for _, horse := range ints(-1, 2, 64, math.MinInt, math.MaxInt) {
		check(windows("0..0 0..0"), ints(1), horse, api.ErrNone, api.OK, api.OK, api.ErrName)
		day, e := Earliest(windows("0..0 0..0"), ints(2), horse)
		wantValue(t, "Earliest", day, e, 0, api.ErrName)
	}
	day, e := Earliest(nil, ints(2), 0)
	wantValue(t, "Earliest without horses", day, e, 0, api.ErrName)
}

// P7.2, P7.3 and P7.4: everything against all right bookings.

func TestBookingsAgainstBrute(t *testing.T) {
	r := sample()
	count := map[string]int{}
	for range 4000 {
		w, places := someWindows(r, r.Intn(6), 4), somePlaces(r, 1+r.Intn(5), 0, 1, 1, 2)
		all := bruteAll(w, places)
		if greatest := slices.MaxFunc(all, bruteCompare); true {
			booking, e := Most(w, places)
			wantList(t, "Most", booking, e, greatest, api.OK)
			missed, e := Missed(w, places)
			wantValue(t, "Missed", missed, e, len(w)-bruteCount(greatest), api.OK)
		}
		f, wantE := bruteStuck(w, places, 4)
		got, e := Stuck(w, places)
		wantValue(t, "Stuck", got, e, f, wantE)
		if full := bruteFull(w, places); len(full) > 0 {
			count["full"]++
			wantErrno(t, "Stuck with a full booking", e, api.ErrNone)
			checkFull(t, w, places, full, count)
		} else {
			count["stuck"]++
			wantErrno(t, "Stuck without a full booking", e, api.OK)
			checkStuck(t, w, places)
		}
		if t.Failed() {
			t.Fatal("for", w, places)
		}
	}
	for _, kind := range []string{"full", "stuck", "forced", "several", "spare", "needed", "not at once"} {
		if count[kind] < 200 {
			t.Error("too few of a kind:", count)
		}
	}
}

// checkFull holds what is asked of full bookings against all of them.
func checkFull(t *testing.T, w []api.Window, places []int, full [][]int, count map[string]int) {
	t.Helper()
	booking, e := Book(w, places)
	wantList(t, "Book", booking, e, bruteBook(w, places), api.OK)
	if !Right(w, places, booking) || !Full(booking) {
		t.Error("Book is", booking)
	}
	forced := make([]int, len(w))
	for horse := range w {
		var days []int
		for _, booking := range full {
			days = append(days, booking[horse])
		}
		first, last := slices.Min(days), slices.Max(days)
		day, e := Earliest(w, places, horse)
		wantValue(t, "Earliest", day, e, first, api.OK)
		if first > w[horse].Lo {
			count["not at once"]++
		}
		if forced[horse] = first; first != last {
			forced[horse] = -1
			count["several"]++
		} else {
			count["forced"]++
		}
	}
	got, e := Forced(w, places)
	wantList(t, "Forced", got, e, forced, api.OK)
	spare := make([]int, len(places))
	for day := range places {
		fewer := slices.Clone(places)
		for fewer[day]--; fewer[day] >= 0 && len(bruteFull(w, fewer)) > 0; fewer[day]-- {
			spare[day]++
		}
		if spare[day] > 0 {
			count["spare"]++
		} else {
			count["needed"]++
		}
	}
	got, e = Spare(w, places)
	wantList(t, "Spare", got, e, spare, api.OK)
}

// checkStuck holds that there is no full booking, and that a stretch is too full.
func checkStuck(t *testing.T, w []api.Window, places []int) {
	t.Helper()
	booking, e := Book(w, places)
	wantList(t, "Book", booking, e, nil, api.ErrNone)
	forced, e := Forced(w, places)
	wantList(t, "Forced", forced, e, nil, api.ErrNone)
	spare, e := Spare(w, places)
	wantList(t, "Spare", spare, e, nil, api.ErrNone)
	for horse := range w {
		day, e := Earliest(w, places, horse)
		wantValue(t, "Earliest", day, e, 0, api.ErrNone)
	}
	if f, e := Stuck(w, places); e != api.OK || !TooFull(w, places, f) {
		t.Error("Stuck is", f, e)
	}
}

func TestAllOrAStretch(t *testing.T) {
	r := sample()
	count := map[bool]int{}
	for range 1000 {
		w, places := someWindows(r, r.Intn(12), 9), somePlaces(r, 1+r.Intn(9), 0, 1, 2, 3)
		anyFull := false
		for from := range 12 {
			for to := from; to < 12; to++ {
				got := TooFull(w, places, api.Full{From: from, To: to})
				if got != bruteTooFull(w, places, from, to) {
					t.Fatal("TooFull is", got, "for", w, places, from, to)
				}
				anyFull = anyFull || got
			}
		}
		_, book := Book(w, places)
		f, stuck := Stuck(w, places)
		if anyFull != (book == api.ErrNone) || anyFull != (stuck == api.OK) || anyFull && !TooFull(w, places, f) {
			t.Fatal("a stretch is too full:", anyFull, "Book", book, "Stuck", f, stuck, "for", w, places)
		}
		count[anyFull]++
	}
	if count[true] < 100 || count[false] < 100 {
		t.Error("too few of a kind:", count)
	}
}

func TestManyHorsesAgainstMatching(t *testing.T) {
	r := sample()
	count := map[bool]int{}
	for range 400 {
		days := 1 + r.Intn(20)
		w, places := someWindows(r, r.Intn(22), days), somePlaces(r, days, 0, 0, 1, 1, 2, 3)
		missed, e := Missed(w, places)
		wantValue(t, "Missed", missed, e, len(w)-most(w, places), api.OK)
		booking, e := Most(w, places)
		wantList(t, "Most", booking, e, mostList(w, places), api.OK)
		if !Right(w, places, booking) || Full(booking) != (missed == 0) {
			t.Error("Most is", booking, "and Missed", missed)
		}
		if _, e := Book(w, places); (e == api.ErrNone) != (missed > 0) {
			t.Error("Missed is", missed, "but Book", e)
		}
		count[missed > 0]++
		if t.Failed() {
			t.Fatal("for", w, places)
		}
	}
	if count[true] < 50 || count[false] < 50 {
		t.Error("too few of a kind:", count)
	}
}

func TestMoreNeverMissesMore(t *testing.T) {
	r := sample()
	fewer := 0
	for range 5000 {
		w, places := someWindows(r, 1+r.Intn(20), 12), somePlaces(r, 10, 0, 1, 2)
		before, e := Missed(w, places)
		wantErrno(t, "Missed", e, api.OK)
		day, horse := r.Intn(10), r.Intn(len(w))
		places[day] += r.Intn(2)
		w[horse].Lo -= min(w[horse].Lo, r.Intn(3))
		w[horse].Hi += r.Intn(3)
		after, e := Missed(w, places)
		if e != api.OK || after > before {
			t.Fatal("Missed is", before, "and then", after, e, "for", w, places)
		}
		if after < before {
			fewer++
		}
	}
	if fewer < 500 {
		t.Error("only", fewer, "changes that matter")
	}
}

func TestMuchIsFast(t *testing.T) {
	late := append(make([]int, 136), alike(64, 1)...)
	wide := alike(64, api.Window{Lo: 0, Hi: 199})
	var narrow []api.Window // half of the horses may come at once, and all the others must
	for i := range 32 {
		narrow = append(narrow, api.Window{Lo: 0, Hi: 100000})
		narrow = append(narrow, api.Window{Lo: 2 * i, Hi: 2 * i})
	}
	begin := time.Now()
	for _, w := range [][]api.Window{wide, narrow} {
		for _, places := range [][]int{late, alike(200, 1), alike(200, 64), alike(200, 0)} {
			Book(w, places)
			Most(w, places)
			Forced(w, places)
			Spare(w, places)
			Stuck(w, places)
			for horse := range w {
				Earliest(w, places, horse)
			}
		}
	}
	if past := time.Since(begin); past > 20*time.Second {
		t.Error("it took", past)
	}
}
