package hoof

import (
	"math"
	"math/rand"
	"slices"
	"testing"

	"clinch/api"
)

var (
	good   = api.Hoof{Toe: 80000000, Heel: 74000000, In: 60000000, Out: 62000000}
	rates  = api.Rates{Toe: 250, Heel: 200, In: 150, Out: 0}
	bounds = api.Bounds{Lo: 900, Hi: 1000, Side: 5000000, Least: 1000000}

	longHoof    = api.Hoof{Toe: api.MaxLength, Heel: api.MaxLength, In: api.MaxLength, Out: api.MaxLength}
	badHoof     = api.Hoof{Toe: -1, Heel: 1, In: 1, Out: 1}
	badRates    = api.Rates{In: 1001}
	badSeason   = api.Season{11: 2001}
	badBounds   = api.Bounds{Lo: 900, Hi: 909, Least: 1000}
	extremeInts = []int{math.MinInt, math.MinInt + 1, -1, 0, 1, 10, 1000, 1990, 2000, api.MaxDay, api.MaxDay + 1, api.MaxLength, api.MaxLength + 1, math.MaxInt - 10, math.MaxInt}
)

// months makes a season whose months all differ, so that a wrong month shows.
func months() api.Season {
	return api.Season{100, 201, 302, 403, 504, 605, 706, 807, 908, 1009, 1110, 2000}
}

func steady(n int) api.Season {
	var s api.Season
	for i := range s {
		s[i] = n
	}
	return s
}

func hoofOf(toe, heel, in, out int) api.Hoof {
	return api.Hoof{Toe: toe, Heel: heel, In: in, Out: out}
}

func sample() *rand.Rand {
	return rand.New(rand.NewSource(1))
}

func pick(r *rand.Rand, lo, hi int) int {
	return lo + r.Intn(hi-lo+1)
}

func someHoof(r *rand.Rand, hi int) api.Hoof {
	return hoofOf(pick(r, 0, hi), pick(r, 0, hi), pick(r, 0, hi), pick(r, 0, hi))
}

func someBounds(r *rand.Rand) api.Bounds {
	lo := pick(r, 1, 1990)
	return api.Bounds{Lo: lo, Hi: pick(r, lo+10, 2000), Side: pick(r, 0, 40), Least: pick(r, 1000, 1030)}
}

func wantErrno(t *testing.T, what string, got, want api.Errno) {
	t.Helper()
	if got != want {
		t.Errorf("%s: errno %d, want %d", what, got, want)
	}
}

// 1.1

func TestValidHoof(t *testing.T) {
	for _, h := range []api.Hoof{{}, longHoof, good} {
		if !ValidHoof(h) {
			t.Error("not valid:", h)
		}
	}
	for i := range 4 {
		for _, n := range []int{-1, api.MaxLength + 1, math.MinInt, math.MaxInt} {
			l := [4]int{1, 1, 1, 1}
			l[i] = n
			if h := hoofOf(l[0], l[1], l[2], l[3]); ValidHoof(h) {
				t.Error("valid:", h)
			}
		}
	}
}

func TestValidRates(t *testing.T) {
	for _, r := range []api.Rates{{}, {Toe: 1000, Heel: 1000, In: 1000, Out: 1000}, rates} {
		if !ValidRates(r) {
			t.Error("not valid:", r)
		}
	}
	for _, n := range []int{-1, 1001, math.MinInt, math.MaxInt} {
		for _, r := range []api.Rates{{Toe: n}, {Heel: n}, {In: n}, {Out: n}} {
			if ValidRates(r) {
				t.Error("valid:", r)
			}
		}
	}
}

func TestValidSeason(t *testing.T) {
	for _, s := range []api.Season{{}, steady(2000), months()} {
		if !ValidSeason(s) {
			t.Error("not valid:", s)
		}
	}
	for i := range 12 {
		for _, n := range []int{-1, 2001, math.MinInt, math.MaxInt} {
			s := months()
			s[i] = n
			if ValidSeason(s) {
				t.Error("valid:", s)
			}
		}
	}
}

func TestValidBounds(t *testing.T) {
	for _, b := range []api.Bounds{
		{Lo: 1, Hi: 11, Side: 0, Least: 1000},
		{Lo: 1990, Hi: 2000, Side: api.MaxLength, Least: api.MaxLength},
		{Lo: 1, Hi: 2000, Least: 1000},
	} {
		if !ValidBounds(b) {
			t.Error("not valid:", b)
		}
	}
	for _, b := range []api.Bounds{
		{},
		{Lo: 0, Hi: 1000, Least: 1000},
		{Lo: 1991, Hi: 2001, Least: 1000},
		{Lo: 1991, Hi: 2000, Least: 1000},
		{Lo: 1990, Hi: 1999, Least: 1000},
		{Lo: 900, Hi: 2001, Least: 1000},
		{Lo: 900, Hi: 1000, Side: -1, Least: 1000},
		{Lo: 900, Hi: 1000, Side: api.MaxLength + 1, Least: 1000},
		{Lo: 900, Hi: 1000, Least: 999},
		{Lo: 900, Hi: 1000, Least: api.MaxLength + 1},
		{Lo: math.MaxInt, Hi: 1000, Least: 1000},
	} {
		if ValidBounds(b) {
			t.Error("valid:", b)
		}
	}
}

func TestMonth(t *testing.T) {
	lengths := []int{31, 28, 31, 30, 31, 30, 31, 31, 30, 31, 30, 31}
	day := 0
	for day <= api.MaxDay {
		for month, length := range lengths {
			for range length {
				if got := Month(day); day <= api.MaxDay && got != month {
					t.Fatal("Month of", day, "is", got, "and not", month)
				}
				day++
			}
		}
	}
	for _, day := range []int{-1, api.MaxDay + 1, math.MinInt, math.MaxInt} {
		if got := Month(day); got != -1 {
			t.Error("Month of", day, "is", got)
		}
	}
}

func TestShare(t *testing.T) {
	for _, c := range []struct {
		s              api.Season
		from, to, want int
	}{
		{steady(1000), 0, 31, 31000},
		{steady(2000), 0, api.MaxDay, 2000 * api.MaxDay},
		{months(), 0, 0, 0},
		{months(), 77, 77, 0},
		{months(), api.MaxDay, api.MaxDay, 0},
		{months(), 0, 1, 100},
		{months(), 30, 32, 301},
		{months(), 58, 60, 503},
		{months(), 364, 366, 2100},
		{months(), 334, 365, 31 * 2000},
	} {
		got, e := Share(c.s, c.from, c.to)
		if got != c.want || e != api.OK {
			t.Error("Share", c.from, c.to, "is", got, e, "and not", c.want)
		}
	}
}

func TestShareErrors(t *testing.T) {
	for _, c := range []struct {
		s        api.Season
		from, to int
		want     api.Errno
	}{
		{badSeason, 0, 1, api.ErrInvalid},
		{badSeason, 1, 0, api.ErrInvalid},
		{months(), -1, 1, api.ErrRange},
		{months(), 2, 1, api.ErrRange},
		{months(), 0, api.MaxDay + 1, api.ErrRange},
		{months(), api.MaxDay + 1, api.MaxDay + 1, api.ErrRange},
		{months(), math.MinInt, math.MaxInt, api.ErrRange},
	} {
		n, e := Share(c.s, c.from, c.to)
		wantErrno(t, "Share", e, c.want)
		if n != 0 {
			t.Error("Share with an error gives", n)
		}
	}
}

// 1.2

func TestGrown(t *testing.T) {
	h, e := Grown(good, rates, steady(1000), 0, 31)
	if want := hoofOf(87750000, 80200000, 64650000, 62000000); h != want || e != api.OK {
		t.Error("Grown", h, e)
	}
	h, e = Grown(api.Hoof{}, api.Rates{Toe: 1, Heel: 2, In: 3, Out: 4}, months(), 30, 32)
	if want := hoofOf(301, 602, 903, 1204); h != want || e != api.OK {
		t.Error("Grown over the end of a month", h, e)
	}
	if h, e = Grown(good, rates, months(), 5, 5); h != good || e != api.OK {
		t.Error("Grown over no day", h, e)
	}
}

func TestGrownToTheLimit(t *testing.T) {
	h := hoofOf(1, 1, 1, api.MaxLength-1000)
	r := api.Rates{Out: 1}
	if g, e := Grown(h, r, steady(1000), 9, 10); e != api.OK || g.Out != api.MaxLength {
		t.Error("Grown up to MaxLength", g, e)
	}
	g, e := Grown(h, r, steady(1001), 9, 10)
	wantErrno(t, "Grown beyond MaxLength", e, api.ErrLimit)
	if g != (api.Hoof{}) {
		t.Error("Grown with an error gives", g)
	}
	_, e = Grown(longHoof, api.Rates{Toe: 1000, Heel: 1000, In: 1000, Out: 1000}, steady(2000), 0, api.MaxDay)
	wantErrno(t, "Grown far beyond MaxLength", e, api.ErrLimit)
}

func TestGrownErrors(t *testing.T) {
	for _, c := range []struct {
		h        api.Hoof
		r        api.Rates
		s        api.Season
		from, to int
		want     api.Errno
	}{
		{badHoof, rates, months(), 1, 0, api.ErrInvalid},
		{good, badRates, months(), 1, 0, api.ErrInvalid},
		{good, rates, badSeason, 1, 0, api.ErrInvalid},
		{longHoof, rates, steady(2000), 1, 0, api.ErrRange},
		{longHoof, rates, steady(2000), -1, 5, api.ErrRange},
		{longHoof, rates, steady(2000), 5, api.MaxDay + 1, api.ErrRange},
	} {
		h, e := Grown(c.h, c.r, c.s, c.from, c.to)
		wantErrno(t, "Grown", e, c.want)
		if h != (api.Hoof{}) {
			t.Error("Grown with an error gives", h)
		}
	}
}

func TestWorn(t *testing.T) {
	h := hoofOf(10000, 5000, 4999, 0)
	for _, c := range []struct {
		per, metres int
		want        api.Hoof
	}{
		{0, 1000000, h},
		{100000, 0, h},
		{7, 100, hoofOf(9300, 4300, 4299, 0)},
		{50, 100, hoofOf(5000, 0, 0, 0)},
		{100000, 1000000, api.Hoof{}},
	} {
		if got, e := Worn(h, c.per, c.metres); got != c.want || e != api.OK {
			t.Error("Worn", c.per, c.metres, "is", got, e)
		}
	}
}

func TestWornErrors(t *testing.T) {
	for _, c := range []struct {
		h           api.Hoof
		per, metres int
		want        api.Errno
	}{
		{badHoof, -1, 0, api.ErrInvalid},
		{good, -1, 0, api.ErrRange},
		{good, 100001, 0, api.ErrRange},
		{good, 0, -1, api.ErrRange},
		{good, 0, 1000001, api.ErrRange},
		{good, math.MaxInt, math.MaxInt, api.ErrRange},
	} {
		h, e := Worn(c.h, c.per, c.metres)
		wantErrno(t, "Worn", e, c.want)
		if h != (api.Hoof{}) {
			t.Error("Worn with an error gives", h)
		}
	}
}

// 1.3

func TestRatio(t *testing.T) {
	for _, c := range []struct{ toe, heel, want int }{
		{1000, 999, 999},
		{3, 2, 666},
		{3, 0, 0},
		{1, api.MaxLength / 1000, api.MaxLength},
		{api.MaxLength, api.MaxLength, 1000},
		{api.MaxLength, api.MaxLength - 1, 999},
	} {
		if got, e := Ratio(hoofOf(c.toe, c.heel, 0, 0)); got != c.want || e != api.OK {
			t.Error("Ratio of", c.toe, c.heel, "is", got, e)
		}
	}
	n, e := Ratio(hoofOf(0, 5, 5, 5))
	wantErrno(t, "Ratio without a toe", e, api.ErrNone)
	if n != 0 {
		t.Error("Ratio with an error gives", n)
	}
	_, e = Ratio(api.Hoof{Toe: 0, Heel: -1})
	wantErrno(t, "Ratio of no hoof", e, api.ErrInvalid)
}

func TestFaults(t *testing.T) {
	b := api.Bounds{Lo: 900, Hi: 1000, Side: 10, Least: 1000}
	for _, c := range []struct {
		h    api.Hoof
		want []string
	}{
		{hoofOf(10000, 9000, 5000, 5010), nil},
		{hoofOf(10000, 10000, 5010, 5000), nil},
		{hoofOf(1000, 1000, 1000, 1000), nil},
		{hoofOf(10000, 8999, 5000, 5000), []string{"back"}},
		{hoofOf(10000, 10001, 5000, 5000), []string{"forward"}},
		{hoofOf(10000, 9000, 5000, 5011), []string{"inward"}},
		{hoofOf(10000, 9000, 5011, 5000), []string{"outward"}},
		{hoofOf(999, 999, 5000, 5000), []string{"short"}},
		{hoofOf(1000, 999, 5000, 5000), []string{"short"}},
		{hoofOf(10000, 9000, 999, 1000), []string{"short"}},
		{hoofOf(10000, 9000, 1000, 999), []string{"short"}},
		{hoofOf(10000, 8999, 0, 5000), []string{"back", "inward", "short"}},
		{hoofOf(0, 1, 5000, 0), []string{"forward", "outward", "short"}},
		{hoofOf(0, 0, 0, 0), []string{"short"}},
		{hoofOf(api.MaxLength, api.MaxLength-1, 5000, 5000), nil},
		{hoofOf(api.MaxLength-1, api.MaxLength, 5000, 5000), []string{"forward"}},
	} {
		if got, e := Faults(c.h, b); !slices.Equal(got, c.want) || e != api.OK {
			t.Error("Faults of", c.h, "are", got, e)
		}
		if got, e := Keeps(c.h, b); got != (len(c.want) == 0) || e != api.OK {
			t.Error("Keeps of", c.h, "is", got, e)
		}
	}
}

func TestFaultsAreNewMemory(t *testing.T) {
	first, _ := Faults(api.Hoof{}, bounds)
	for i := range first {
		first[i] = "changed"
	}
	if second, _ := Faults(api.Hoof{}, bounds); !slices.Equal(second, []string{"short"}) {
		t.Error("Faults after a change of an earlier result are", second)
	}
}

func TestFaultsErrors(t *testing.T) {
	for _, c := range []struct {
		h api.Hoof
		b api.Bounds
	}{{badHoof, bounds}, {good, badBounds}, {badHoof, badBounds}} {
		l, e := Faults(c.h, c.b)
		wantErrno(t, "Faults", e, api.ErrInvalid)
		if len(l) != 0 {
			t.Error("Faults with an error gives", l)
		}
		ok, e := Keeps(c.h, c.b)
		wantErrno(t, "Keeps", e, api.ErrInvalid)
		if ok {
			t.Error("Keeps with an error")
		}
	}
}

// 1.4

func TestTrim(t *testing.T) {
	for _, c := range []struct{ h, want api.Hoof }{
		{good, good},
		{hoofOf(90000000, 72000000, 60000000, 60000000), hoofOf(80000000, 72000000, 60000000, 60000000)},
		{hoofOf(90000000, 72000001, 60000000, 60000000), hoofOf(80000001, 72000001, 60000000, 60000000)},
		{hoofOf(50000000, 60000001, 9000000, 9000000), hoofOf(50000000, 50000000, 9000000, 9000000)},
		{hoofOf(50000000, 48000000, 9000000, 14000001), hoofOf(50000000, 48000000, 9000000, 14000000)},
		{hoofOf(50000000, 48000000, 14000001, 9000000), hoofOf(50000000, 48000000, 14000000, 9000000)},
		{hoofOf(1000000, 1000000, 1000000, 1000000), hoofOf(1000000, 1000000, 1000000, 1000000)},
		{longHoof, longHoof},
	} {
		if got, e := Trim(c.h, bounds); got != c.want || e != api.OK {
			t.Error("Trim of", c.h, "is", got, e)
		}
	}
}

func TestTrimRoundsDown(t *testing.T) {
	b := api.Bounds{Lo: 700, Hi: 933, Side: 0, Least: 1000}
	if got, e := Trim(hoofOf(2001, 2001, 1500, 1400), b); got != hoofOf(2001, 1866, 1400, 1400) || e != api.OK {
		t.Error("Trim of a heel", got, e)
	}
	if got, e := Trim(hoofOf(2001, 1001, 1400, 1500), b); got != hoofOf(1430, 1001, 1400, 1400) || e != api.OK {
		t.Error("Trim of a toe", got, e)
	}
}

func TestTrimErrors(t *testing.T) {
	for _, c := range []struct {
		h    api.Hoof
		b    api.Bounds
		want api.Errno
	}{
		{badHoof, bounds, api.ErrInvalid},
		{good, badBounds, api.ErrInvalid},
		{api.Hoof{}, badBounds, api.ErrInvalid},
		{api.Hoof{}, bounds, api.ErrNone},
		{hoofOf(999999, 1000000, 1000000, 1000000), bounds, api.ErrNone},
		{hoofOf(1000000, 999999, 1000000, 1000000), bounds, api.ErrNone},
		{hoofOf(1000000, 1000000, 999999, 1000000), bounds, api.ErrNone},
		{hoofOf(1000000, 1000000, 1000000, 999999), bounds, api.ErrNone},
		{hoofOf(2000, 1000, 2000, 2000), api.Bounds{Lo: 1001, Hi: 1100, Least: 1000}, api.ErrNone},
	} {
		h, e := Trim(c.h, c.b)
		wantErrno(t, "Trim", e, c.want)
		if h != (api.Hoof{}) {
			t.Error("Trim with an error gives", h)
		}
	}
}

func TestWithin(t *testing.T) {
	for _, c := range []struct {
		a, b api.Hoof
		want bool
	}{
		{good, good, true},
		{hoofOf(1, 2, 3, 4), hoofOf(1, 2, 3, 5), true},
		{hoofOf(2, 2, 3, 4), hoofOf(1, 9, 9, 9), false},
		{hoofOf(1, 3, 3, 4), hoofOf(9, 2, 9, 9), false},
		{hoofOf(1, 2, 4, 4), hoofOf(9, 9, 3, 9), false},
		{hoofOf(1, 2, 3, 5), hoofOf(9, 9, 9, 4), false},
		{hoofOf(math.MinInt, -5, -1, 0), hoofOf(math.MaxInt, -5, 0, 0), true},
		{hoofOf(math.MaxInt, 0, 0, 0), hoofOf(math.MinInt, 0, 0, 0), false},
	} {
		if got := Within(c.a, c.b); got != c.want {
			t.Error("Within of", c.a, c.b, "is", got)
		}
	}
}

func TestTaken(t *testing.T) {
	if h, e := Taken(hoofOf(9, 8, 7, 6), hoofOf(9, 5, 0, 2)); h != hoofOf(0, 3, 7, 4) || e != api.OK {
		t.Error("Taken", h, e)
	}
	if h, e := Taken(longHoof, api.Hoof{}); h != longHoof || e != api.OK {
		t.Error("Taken of all", h, e)
	}
	for _, c := range []struct {
		h, to api.Hoof
		want  api.Errno
	}{
		{badHoof, good, api.ErrInvalid},
		{good, badHoof, api.ErrInvalid},
		{hoofOf(9, 9, 9, 9), hoofOf(9, 9, 10, 9), api.ErrNone},
	} {
		h, e := Taken(c.h, c.to)
		wantErrno(t, "Taken", e, c.want)
		if h != (api.Hoof{}) {
			t.Error("Taken with an error gives", h)
		}
	}
}

func TestHorn(t *testing.T) {
	if n, e := Horn(hoofOf(1, 20, 300, 4000)); n != 4321 || e != api.OK {
		t.Error("Horn", n, e)
	}
	if n, e := Horn(longHoof); n != 4*api.MaxLength || e != api.OK {
		t.Error("Horn of the longest hoof", n, e)
	}
	n, e := Horn(badHoof)
	wantErrno(t, "Horn", e, api.ErrInvalid)
	if n != 0 {
		t.Error("Horn with an error gives", n)
	}
}

// 1.5

func TestLeaves(t *testing.T) {
	h := hoofOf(80000000, 72000000, 60000000, 60000000)
	for _, c := range []struct {
		h          api.Hoof
		r          api.Rates
		from, want int
	}{
		{api.Hoof{}, rates, 42, 42},
		{h, api.Rates{Toe: 250, Heel: 224}, 7, 8},
		{h, api.Rates{Toe: 250, Heel: 225, In: 350, Out: 250}, 0, 51},
		{h, api.Rates{Toe: 250, Heel: 225, In: 250, Out: 350}, 100, 151},
		{h, api.Rates{Toe: 250, Heel: 224}, api.MaxDay - 1, api.MaxDay},
		{api.Hoof{}, rates, api.MaxDay, api.MaxDay},
	} {
		if got, e := Leaves(c.h, c.r, steady(1000), bounds, c.from); got != c.want || e != api.OK {
			t.Error("Leaves of", c.h, c.r, "is", got, e, "and not", c.want)
		}
	}
}

func TestLeavesTakesTheMonths(t *testing.T) {
	s := steady(0)
	s[2] = 1000
	h := hoofOf(80000000, 72000000, 60000000, 60000000)
	if got, e := Leaves(h, api.Rates{Toe: 1}, s, bounds, 0); got != 60 || e != api.OK {
		t.Error("growth from March on is seen on day", got, e)
	}
}

func TestLeavesLooksAhead(t *testing.T) {
	// the inner wall is one step further out each day, and just in bounds on the day before the last
	for _, c := range []struct {
		steps int
		from  int
		want  int
		errno api.Errno
	}{
		{1999, 10, 2010, api.OK},
		{2000, 10, 0, api.ErrNone},
		{4, api.MaxDay - 5, api.MaxDay, api.OK},
		{5, api.MaxDay - 5, 0, api.ErrNone},
		{0, api.MaxDay, 0, api.ErrNone},
	} {
		b := api.Bounds{Lo: 900, Hi: 1000, Side: c.steps, Least: 1000}
		got, e := Leaves(hoofOf(1000, 1000, 1000, 1000), api.Rates{In: 1}, steady(1), b, c.from)
		wantErrno(t, "Leaves", e, c.errno)
		if got != c.want {
			t.Error("Leaves", c.steps, c.from, "is", got, "and not", c.want)
		}
	}
}

func TestLeavesLimit(t *testing.T) {
	b := api.Bounds{Lo: 1, Hi: 2000, Side: api.MaxLength, Least: 1000}
	h := hoofOf(api.MaxLength, api.MaxLength, api.MaxLength, api.MaxLength-2000)
	r := api.Rates{Out: 1}
	day, e := Leaves(h, r, steady(1000), b, 0)
	wantErrno(t, "Leaves of a hoof that grows too long", e, api.ErrLimit)
	if day != 0 {
		t.Error("Leaves with an error gives", day)
	}
	_, e = Leaves(h, r, steady(1000), b, api.MaxDay-2)
	wantErrno(t, "Leaves of a hoof that is at MaxLength on the last day", e, api.ErrNone)
	_, e = Leaves(h, r, steady(1000), b, api.MaxDay-3)
	wantErrno(t, "Leaves of a hoof that is too long on the last day", e, api.ErrLimit)
	_, e = Leaves(h, r, steady(1), b, 0)
	wantErrno(t, "Leaves of a hoof that is at MaxLength after all days", e, api.ErrNone)
	// growth beyond MaxLength is met before what else the day would show
	b.Hi = 1000
	_, e = Leaves(longHoof, api.Rates{Heel: 1}, steady(1), b, 0)
	wantErrno(t, "Leaves of a hoof that leaves by growing too long", e, api.ErrLimit)
}

func TestLeavesErrors(t *testing.T) {
	for _, c := range []struct {
		h    api.Hoof
		r    api.Rates
		s    api.Season
		b    api.Bounds
		from int
		want api.Errno
	}{
		{badHoof, rates, months(), bounds, -1, api.ErrInvalid},
		{good, badRates, months(), bounds, -1, api.ErrInvalid},
		{good, rates, badSeason, bounds, -1, api.ErrInvalid},
		{good, rates, months(), badBounds, -1, api.ErrInvalid},
		{good, rates, months(), bounds, -1, api.ErrRange},
		{api.Hoof{}, rates, months(), bounds, api.MaxDay + 1, api.ErrRange},
		{good, rates, months(), bounds, math.MaxInt, api.ErrRange},
	} {
		day, e := Leaves(c.h, c.r, c.s, c.b, c.from)
		wantErrno(t, "Leaves", e, c.want)
		if day != 0 {
			t.Error("Leaves with an error gives", day)
		}
	}
}

func TestReaches(t *testing.T) {
	h := hoofOf(1000, 0, 0, 0)
	r := api.Rates{Toe: 1}
	for _, c := range []struct {
		from, toe int
		want      int
		errno     api.Errno
	}{
		{5, 0, 5, api.OK},
		{5, 1000, 5, api.OK},
		{5, 1001, 6, api.OK},
		{5, 1010, 6, api.OK},
		{5, 1011, 7, api.OK},
		{5, 21000, 2005, api.OK},
		{5, 21001, 0, api.ErrNone},
		{5, api.MaxLength, 0, api.ErrNone},
		{api.MaxDay - 3, 1030, api.MaxDay, api.OK},
		{api.MaxDay - 3, 1031, 0, api.ErrNone},
		{api.MaxDay, 1000, api.MaxDay, api.OK},
		{api.MaxDay, 1001, 0, api.ErrNone},
	} {
		got, e := Reaches(h, r, steady(10), c.from, c.toe)
		wantErrno(t, "Reaches", e, c.errno)
		if got != c.want {
			t.Error("Reaches", c.from, c.toe, "is", got, "and not", c.want)
		}
	}
}

func TestReachesLimit(t *testing.T) {
	h := hoofOf(0, api.MaxLength-1, 0, 0)
	r := api.Rates{Toe: 1, Heel: 1}
	if got, e := Reaches(h, r, steady(1), 0, 1); got != 1 || e != api.OK {
		t.Error("Reaches before the limit", got, e)
	}
	day, e := Reaches(h, r, steady(1), 0, 2)
	wantErrno(t, "Reaches beside a heel that grows too long", e, api.ErrLimit)
	if day != 0 {
		t.Error("Reaches with an error gives", day)
	}
	_, e = Reaches(hoofOf(api.MaxLength-1, 0, 0, 0), r, steady(2), 0, api.MaxLength)
	wantErrno(t, "Reaches of a toe that grows too long", e, api.ErrLimit)
	_, e = Reaches(h, r, steady(1), api.MaxDay-1, 2)
	wantErrno(t, "Reaches up to the last day", e, api.ErrNone)
}

func TestReachesErrors(t *testing.T) {
	for _, c := range []struct {
		h         api.Hoof
		r         api.Rates
		s         api.Season
		from, toe int
		want      api.Errno
	}{
		{badHoof, rates, months(), -1, -1, api.ErrInvalid},
		{good, badRates, months(), -1, -1, api.ErrInvalid},
		{good, rates, badSeason, -1, -1, api.ErrInvalid},
		{good, rates, months(), -1, 0, api.ErrRange},
		{good, rates, months(), api.MaxDay + 1, 0, api.ErrRange},
		{good, rates, months(), 0, -1, api.ErrRange},
		{good, rates, months(), 0, api.MaxLength + 1, api.ErrRange},
	} {
		day, e := Reaches(c.h, c.r, c.s, c.from, c.toe)
		wantErrno(t, "Reaches", e, c.want)
		if day != 0 {
			t.Error("Reaches with an error gives", day)
		}
	}
}

// 1.6

func TestFormat(t *testing.T) {
	for _, c := range []struct {
		h    api.Hoof
		want string
	}{
		{api.Hoof{}, "0 0 0 0"},
		{hoofOf(1, 20, 300, 4000), "1 20 300 4000"},
		{longHoof, "500000000 500000000 500000000 500000000"},
		{badHoof, ""},
		{hoofOf(1, 1, 1, api.MaxLength+1), ""},
	} {
		if got := Format(c.h); got != c.want {
			t.Errorf("Format of %v is %q", c.h, got)
		}
	}
}

func TestParseReadsNothingElse(t *testing.T) {
	long := make([]byte, 1000000)
	for i := range long {
		long[i] = ' '
	}
	for _, s := range []string{
		"", " ", "1", "1 2 3", "1 2 3 4 5", "1 2 3 4 ", " 1 2 3 4", "1  2 3 4", "1 2 3 4\n", "1\t2 3 4", "1 2 3 4\x00",
		"01 2 3 4", "1 2 3 04", "1 2 3 00", "1 2 3 +4", "1 2 3 -4", "-0 2 3 4", "1 2 3 4.0", "1 2 3 0x4", "1 2 3 1_0", "1 2 3 1e1",
		"1 2 3 a", "1 2 3 \u0664", "1 2 3 500000001", "500000001 2 3 4", "1 2 3 4294967297", "1 2 3 18446744073709551617",
		"1 2 3 99999999999999999999999999999999999999999999999999", string(long),
	} {
		h, e := Parse(s)
		if e != api.ErrSyntax || h != (api.Hoof{}) {
			t.Errorf("Parse of %.60q is %v, errno %d", s, h, e)
		}
	}
}

// P1.1

func TestEveryCallEnds(t *testing.T) {
	r := sample()
	number := func() int { return extremeInts[r.Intn(len(extremeInts))] }
	anyHoof := func() api.Hoof { return hoofOf(number(), number(), number(), number()) }
	for range 20000 {
		h, to := anyHoof(), anyHoof()
		q := api.Rates{Toe: number(), Heel: number(), In: number(), Out: number()}
		b := api.Bounds{Lo: number(), Hi: number(), Side: number(), Least: number()}
		s := steady(number())
		ValidHoof(h)
		ValidRates(q)
		ValidSeason(s)
		ValidBounds(b)
		Month(number())
		Share(s, number(), number())
		Grown(h, q, s, number(), number())
		Worn(h, number(), number())
		Ratio(h)
		Keeps(h, b)
		Faults(h, b)
		Trim(h, b)
		Within(h, to)
		Taken(h, to)
		Leaves(h, q, s, b, number())
		Reaches(h, q, s, number(), number())
		Horn(h)
		Parse(Format(h))
		text := make([]byte, r.Intn(45))
		for i := range text {
			text[i] = "0123456789 +-\x00\xff"[r.Intn(15)]
		}
		Parse(string(text))
	}
}

// P1.2 and P2

func TestGrowthIsExact(t *testing.T) {
	r := sample()
	for range 2000 {
		var s api.Season
		for i := range s {
			s[i] = pick(r, 0, 2000)
		}
		days := []int{pick(r, 0, 2000), pick(r, 0, 2000), pick(r, 0, 2000)}
		slices.Sort(days)
		a, b, c := days[0], days[1], days[2]
		first, _ := Share(s, a, b)
		second, _ := Share(s, b, c)
		both, e := Share(s, a, c)
		if e != api.OK || first+second != both {
			t.Fatal("Share", a, b, c, first, second, both)
		}
		sum := 0
		for day := a; day < c; day++ {
			sum += s[Month(day)]
		}
		if sum != both {
			t.Fatal("Share by days", a, c, sum, both)
		}
		q := api.Rates{Toe: pick(r, 0, 100), Heel: pick(r, 0, 100), In: pick(r, 0, 100), Out: pick(r, 0, 100)}
		h := someHoof(r, 1000000)
		mid, _ := Grown(h, q, s, a, b)
		end, _ := Grown(mid, q, s, b, c)
		whole, e := Grown(h, q, s, a, c)
		want := hoofOf(h.Toe+both*q.Toe, h.Heel+both*q.Heel, h.In+both*q.In, h.Out+both*q.Out)
		if e != api.OK || end != whole || whole != want {
			t.Fatal("Grown", a, b, c, end, whole, want)
		}
	}
}

// P1.3 and P3

func TestTrimIsTheGreatest(t *testing.T) {
	r := sample()
	trimmed, none := 0, 0
	for range 400 {
		h := hoofOf(pick(r, 1000, 1060), pick(r, 1000, 1060), pick(r, 1000, 1060), pick(r, 1000, 1060))
		b := someBounds(r)
		if pick(r, 0, 1) == 0 {
			b.Lo, b.Hi = pick(r, 950, 1000), pick(r, 1010, 1040)
		}
		if pick(r, 0, 1) == 0 {
			b.Least = 1000
		}
		x, e := Trim(h, b)
		if e == api.OK {
			trimmed++
			checkTrim(t, h, x, b)
		} else {
			none++
			wantErrno(t, "Trim", e, api.ErrNone)
		}
		checkNoneGreater(t, h, x, b, e)
	}
	if trimmed < 50 || none < 50 {
		t.Error("the hooves of this test are too much alike:", trimmed, none)
	}
}

func checkTrim(t *testing.T, h, x api.Hoof, b api.Bounds) {
	t.Helper()
	if ok, e := Keeps(x, b); !ok || e != api.OK || !Within(x, h) {
		t.Fatal("Trim of", h, b, "is", x)
	}
	if again, e := Trim(x, b); again != x || e != api.OK {
		t.Fatal("Trim of the trim", x, b, "is", again, e)
	}
	if ok, _ := Keeps(h, b); ok && x != h {
		t.Fatal("Trim of", h, b, "that keeps them is", x)
	}
}

// checkNoneGreater goes through all hooves within h that might keep the bounds: toe and heel, then in and out, since no bound joins the two.
func checkNoneGreater(t *testing.T, h, x api.Hoof, b api.Bounds, e api.Errno) {
	t.Helper()
	feet, sides := false, false
	for n := b.Least; n <= 1060; n++ {
		for m := b.Least; m <= 1060; m++ {
			if foot := hoofOf(n, m, b.Least, b.Least); n <= h.Toe && m <= h.Heel {
				if ok, _ := Keeps(foot, b); ok {
					feet = true
					if e == api.OK && (n > x.Toe || m > x.Heel) {
						t.Fatal("Trim of", h, b, "is", x, "but", foot, "keeps them")
					}
				}
			}
			if abs(n-m) <= b.Side && n <= h.In && m <= h.Out {
				sides = true
				if e == api.OK && (n > x.In || m > x.Out) {
					t.Fatal("Trim of", h, b, "is", x, "but the sides", n, m, "keep them")
				}
			}
		}
	}
	if e != api.OK && feet && sides {
		t.Fatal("no Trim of", h, b)
	}
}

func abs(n int) int {
	return max(n, -n)
}

func TestTrimOfLongHooves(t *testing.T) {
	r := sample()
	for range 20000 {
		h := someHoof(r, api.MaxLength)
		b := someBounds(r)
		x, e := Trim(h, b)
		if e != api.OK {
			wantErrno(t, "Trim", e, api.ErrNone)
			continue
		}
		checkTrim(t, h, x, b)
	}
}

// P1.4

func TestKeepsIsNoFaults(t *testing.T) {
	r := sample()
	for range 20000 {
		h := hoofOf(pick(r, 980, 1060), pick(r, 980, 1060), pick(r, 980, 1060), pick(r, 980, 1060))
		b := someBounds(r)
		l, _ := Faults(h, b)
		want := 1000*h.Heel >= b.Lo*h.Toe && 1000*h.Heel <= b.Hi*h.Toe && abs(h.In-h.Out) <= b.Side &&
			min(h.Toe, h.Heel, h.In, h.Out) >= b.Least
		if ok, e := Keeps(h, b); ok != want || ok != (len(l) == 0) || e != api.OK {
			t.Fatal("Keeps", h, b, ok, l)
		}
	}
}

func TestWornTwice(t *testing.T) {
	r := sample()
	for range 20000 {
		h := someHoof(r, api.MaxLength)
		per, a, b := pick(r, 0, 2000), pick(r, 0, 200000), pick(r, 0, 200000)
		once, _ := Worn(h, per, a)
		twice, _ := Worn(once, per, b)
		if both, e := Worn(h, per, a+b); both != twice || e != api.OK {
			t.Fatal("Worn", h, per, a, b, both, twice)
		}
	}
}

// P1.5

func TestLeavesAndReachesGiveTheFirstDay(t *testing.T) {
	r := sample()
	left, reached := 0, 0
	for range 300 {
		var s api.Season
		for i := range s {
			s[i] = pick(r, 0, 2000)
		}
		q := api.Rates{Toe: pick(r, 100, 300), Heel: pick(r, 100, 300), In: pick(r, 100, 300), Out: pick(r, 100, 300)}
		from := pick(r, 0, api.MaxDay)
		last := min(from+api.MaxAhead, api.MaxDay)
		toe := pick(r, 80000000, 200000000)
		day, e := Leaves(good, q, s, bounds, from)
		wantDay, wantE := searched(good, q, s, from, last, func(h api.Hoof) bool {
			ok, _ := Keeps(h, bounds)
			return !ok
		})
		if day != wantDay || e != wantE {
			t.Fatal("Leaves", q, s, from, day, e, wantDay, wantE)
		}
		if e == api.OK && day > from {
			left++
		}
		day, e = Reaches(good, q, s, from, toe)
		wantDay, wantE = searched(good, q, s, from, last, func(h api.Hoof) bool { return h.Toe >= toe })
		if day != wantDay || e != wantE {
			t.Fatal("Reaches", q, s, from, toe, day, e, wantDay, wantE)
		}
		if e == api.OK && day > from {
			reached++
		}
	}
	if left < 50 || reached < 50 {
		t.Error("the hooves of this test are too much alike:", left, reached)
	}
}

// searched looks at each day's hoof, grown anew by Grown.
func searched(h api.Hoof, q api.Rates, s api.Season, from, last int, asked func(api.Hoof) bool) (int, api.Errno) {
	for day := from; day <= last; day++ {
		g, e := Grown(h, q, s, from, day)
		if e != api.OK {
			return 0, e
		}
		if asked(g) {
			return day, api.OK
		}
	}
	return 0, api.ErrNone
}

// P1.6

func TestParseOfFormat(t *testing.T) {
	r := sample()
	hooves := []api.Hoof{{}, longHoof, good, hoofOf(1, 10, 100, 1000)}
	for range 2000 {
		hooves = append(hooves, someHoof(r, api.MaxLength))
	}
	for _, h := range hooves {
		if got, e := Parse(Format(h)); got != h || e != api.OK {
			t.Fatal("Parse of Format of", h, "is", got, e)
		}
	}
}
