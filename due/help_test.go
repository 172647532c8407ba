package due

import (
	"math"
	"math/rand"
	"slices"
	"strconv"
	"strings"
	"testing"

	"clinch/api"
)

var extremes = []int{math.MinInt, math.MinInt + 1, -100001, -2, -1, 0, 1, 2, 3, 5, 6, 7, 63, 64, 65, 199, 200, 201, 99999, 100000, 100001, 1 << 32, math.MaxInt - 1, math.MaxInt}

// Numbers that are none of what they should be.
var (
	noDays   = ints(-1, 100001, math.MinInt, math.MaxInt)
	noPlaces = ints(-1, 65, math.MinInt, math.MaxInt)
)

func ints(l ...int) []int {
	return l
}

func sample() *rand.Rand {
	return rand.New(rand.NewSource(7))
}

// windows are those of a text like "0..1 0..2".
func windows(text string) []api.Window {
	var w []api.Window
	for _, word := range strings.Fields(text) {
		lo, hi, _ := strings.Cut(word, "..")
		a, _ := strconv.Atoi(lo)
		b, _ := strconv.Atoi(hi)
		w = append(w, api.Window{Lo: a, Hi: b})
	}
	return w
}

// alike is the same thing so many times.
func alike[T any](count int, x T) []T {
	return slices.Repeat([]T{x}, count)
}

// badWindows has windows for each way of not being valid.
func badWindows() [][]api.Window {
	list := [][]api.Window{
		alike(65, api.Window{Lo: 0, Hi: 199}),
		make([]api.Window, 1000000),
		windows("1..0"),
		windows("100000..99999"),
		windows("0..1 3..2 0..1"),
	}
	for _, n := range noDays {
		list = append(list,
			[]api.Window{{Lo: n, Hi: 5}}, []api.Window{{Lo: 5, Hi: n}}, []api.Window{{Lo: n, Hi: n}},
			append(windows("0..5"), api.Window{Lo: 5, Hi: n}), append([]api.Window{{Lo: n, Hi: n}}, windows("0..5")...))
	}
	return list
}

// badPlaces has places for each way of not being valid.
func badPlaces() [][]int {
	list := [][]int{nil, {}, alike(201, 64), make([]int, 1000000)}
	for _, n := range noPlaces {
		list = append(list, ints(n), ints(1, n), ints(n, 1), append(alike(199, 1), n))
	}
	return list
}

// someWindows are so many windows of the days from 0 to the last one.
func someWindows(r *rand.Rand, count, last int) []api.Window {
	w := make([]api.Window, count)
	for i := range w {
		lo := r.Intn(last + 1)
		w[i] = api.Window{Lo: lo, Hi: lo + r.Intn(last+1-lo)}
	}
	return w
}

// somePlaces are so many days, with as many places as one of some numbers.
func somePlaces(r *rand.Rand, days int, of ...int) []int {
	places := make([]int, days)
	for i := range places {
		places[i] = of[r.Intn(len(of))]
	}
	return places
}

// bruteLoad is how many horses each of so many days has.
func bruteLoad(days int, booking []int) []int {
	load := make([]int, days)
	for _, day := range booking {
		if day >= 0 {
			load[day]++
		}
	}
	return load
}

// bruteAll has all right bookings of some horses, found by the chapter's words.
func bruteAll(w []api.Window, places []int) [][]int {
	list := [][]int{nil}
	for _, x := range w {
		var longer [][]int
		for _, booking := range list {
			longer = append(longer, append(slices.Clone(booking), -1))
			for day := range places {
				if x.Lo <= day && day <= x.Hi && bruteLoad(len(places), booking)[day] < places[day] {
					longer = append(longer, append(slices.Clone(booking), day))
				}
			}
		}
		list = longer
	}
	return list
}

func bruteFull(w []api.Window, places []int) [][]int {
	return slices.DeleteFunc(bruteAll(w, places), func(booking []int) bool { return slices.Contains(booking, -1) })
}

// bruteBook books day by day and horse by horse, by the earliest end.
func bruteBook(w []api.Window, places []int) []int {
	booking := alike(len(w), -1)
	for day, count := range places {
		for range count {
			best := -1
			for horse, x := range w {
				if booking[horse] < 0 && x.Lo <= day && day <= x.Hi && (best < 0 || x.Hi < w[best].Hi) {
					best = horse
				}
			}
			if best >= 0 {
				booking[best] = day
			}
		}
	}
	return booking
}

// bruteCompare says which of two bookings is greater: that with more horses, otherwise that with the greater list.
func bruteCompare(a, b []int) int {
	if n := bruteCount(a) - bruteCount(b); n != 0 {
		return n
	}
	for i := range a {
		switch {
		case a[i] == b[i]:
		case a[i] < 0:
			return -1
		case b[i] < 0:
			return 1
		default:
			return b[i] - a[i]
		}
	}
	return 0
}

func bruteCount(booking []int) int {
	return len(booking) - len(slices.DeleteFunc(slices.Clone(booking), func(day int) bool { return day >= 0 }))
}

func bruteTooFull(w []api.Window, places []int, from, to int) bool {
	more := 0
	for _, x := range w {
		if from <= x.Lo && x.Hi <= to {
			more++
		}
	}
	for day, count := range places {
		if from <= day && day <= to {
			more -= count
		}
	}
	return more > 0
}

// bruteStuck looks at all stretches up to a last day, in ascending order.
func bruteStuck(w []api.Window, places []int, last int) (api.Full, api.Errno) {
	for from := range last + 1 {
		for to := from; to <= last; to++ {
			isBegin := slices.ContainsFunc(w, func(x api.Window) bool { return x.Lo == from })
			isEnd := slices.ContainsFunc(w, func(x api.Window) bool { return x.Hi == to })
			if isBegin && isEnd && bruteTooFull(w, places, from, to) {
				return api.Full{From: from, To: to}, api.OK
			}
		}
	}
	return api.Full{}, api.ErrNone
}

// matching books horses one by one, giving those that are booked other days where one needs theirs.
type matching struct {
	w      []api.Window
	places []int
	on     [][]int // the horses of each day
}

func (m *matching) takes(horse int, seen []bool) bool {
	for day := m.w[horse].Lo; day <= m.w[horse].Hi && day < len(m.places); day++ {
		if day < 0 || seen[day] {
			continue
		}
		seen[day] = true
		if len(m.on[day]) < m.places[day] {
			m.on[day] = append(m.on[day], horse)
			return true
		}
		for i, other := range m.on[day] {
			if m.takes(other, seen) {
				m.on[day][i] = horse
				return true
			}
		}
	}
	return false
}

// most is how many horses can be booked.
func most(w []api.Window, places []int) int {
	m := &matching{w: w, places: places, on: make([][]int, len(places))}
	count := 0
	for horse := range w {
		if m.takes(horse, make([]bool, len(places))) {
			count++
		}
	}
	return count
}

// mostList is the greatest of the bookings with the most horses, found by fixing one horse after the other.
func mostList(w []api.Window, places []int) []int {
	w, places = slices.Clone(w), slices.Clone(places)
	left := most(w, places)
	booking := alike(len(w), -1)
	for horse, x := range w {
		w[horse] = api.Window{Lo: -1, Hi: -1}
		for day := x.Lo; day <= x.Hi && day < len(places); day++ {
			if places[day] == 0 {
				continue
			}
			places[day]--
			if most(w, places) == left-1 {
				booking[horse] = day
				left--
				break
			}
			places[day]++
		}
	}
	return booking
}

func wantErrno(t *testing.T, what string, got, want api.Errno) {
	t.Helper()
	if got != want {
		t.Errorf("%s: errno %d, want %d", what, got, want)
	}
}

// wantList also holds a list that comes with an error against nothing.
func wantList[T comparable](t *testing.T, what string, got []T, e api.Errno, want []T, wantE api.Errno) {
	t.Helper()
	wantErrno(t, what, e, wantE)
	if !slices.Equal(got, want) {
		t.Errorf("%s: %v, want %v", what, got[:min(len(got), 70)], want)
	}
}

// wantValue also holds a value that comes with an error against zero.
func wantValue[T comparable](t *testing.T, what string, got T, e api.Errno, want T, wantE api.Errno) {
	t.Helper()
	wantErrno(t, what, e, wantE)
	if got != want {
		t.Errorf("%s: %v, want %v", what, got, want)
	}
}
