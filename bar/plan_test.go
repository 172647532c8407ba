package bar

import (
	"math"
	"math/big"
	"slices"
	"testing"
	"time"

	"clinch/api"
)

// 3.2

func TestFirstFit(t *testing.T) {
	for _, c := range []struct {
		s            api.Stock
		pieces, want []int
	}{
		{stock(800, 0), ints(300, 300, 500), ints(0, 1, 0)}, // 500 takes the first 300 beside it
		{stock(800, 0), ints(500, 300, 300), ints(0, 0, 1)},
		{stock(800, 0), ints(300, 500, 300), ints(0, 0, 1)},
		{stock(10, 0), ints(2, 3, 4, 6, 7), ints(0, 1, 2, 2, 1)}, // the bars were 2 1 0 before they were numbered anew
		{stock(10, 0), ints(4, 4, 4, 4), ints(0, 0, 1, 1)},
		{stock(10, 0), ints(6, 7, 3, 4), ints(0, 1, 1, 0)},
		{stock(10, 0), ints(5, 4, 3, 3, 3, 2), ints(0, 0, 1, 1, 1, 2)}, // not the fewest
		{stock(800, 5), ints(395, 400), ints(0, 0)},                    // the last cut falls on the end
		{stock(800, 5), ints(396, 400), ints(0, 1)},
		{stock(800, 100), ints(800, 800), ints(0, 1)},
		{stock(800, 0), nil, nil},
		{stock(1, 0), slices.Repeat(ints(1), 16), ints(0, 1, 2, 3, 4, 5, 6, 7, 8, 9, 10, 11, 12, 13, 14, 15)},
	} {
		l, e := FirstFit(c.s, c.pieces)
		wantList(t, "FirstFit", l, e, c.want, api.OK)
	}
	r := sample()
	for range 5000 {
		s, pieces := someCase(r, 16)
		if len(pieces) == 0 || slices.Max(pieces) <= s.Bar {
			l, e := FirstFit(s, pieces)
			wantList(t, "FirstFit", l, e, bruteFirstFit(s, pieces), api.OK)
		}
	}
}

// bruteFirstFit looks for the longest piece that is left, again and again, then names the bars by what is written for them.
func bruteFirstFit(s api.Stock, pieces []int) []int {
	var bars [][]int
	in := make([]int, len(pieces))
	done := make([]bool, len(pieces))
	for range pieces {
		next := -1
		for i, p := range pieces {
			if !done[i] && (next < 0 || p > pieces[next]) {
				next = i
			}
		}
		done[next] = true
		b := 0
		for b < len(bars) && !bruteFit(s.Bar, s.Kerf, append(slices.Clone(bars[b]), pieces[next])) {
			b++
		}
		if b == len(bars) {
			bars = append(bars, nil)
		}
		bars[b] = append(bars[b], pieces[next])
		in[next] = b
	}
	var order, plan []int
	for _, b := range in {
		if !slices.Contains(order, b) {
			order = append(order, b)
		}
		plan = append(plan, slices.Index(order, b))
	}
	return plan
}

func TestFewest(t *testing.T) {
	for _, c := range []struct {
		s            api.Stock
		pieces, want []int
	}{
		{stock(800, 0), ints(300, 300, 500), ints(0, 0, 1)},
		{stock(800, 0), ints(500, 300, 300), ints(0, 0, 1)},
		{stock(800, 5), ints(400, 395), ints(0, 0)}, // the last cut falls on the end
		{stock(800, 5), ints(400, 396), ints(0, 1)},
		{stock(10, 0), ints(5, 4, 3, 3, 3, 2), ints(0, 1, 0, 1, 1, 0)}, // first fit uses three
		{stock(10, 0), ints(1, 1, 9, 9), ints(0, 1, 0, 1)},
		{stock(10, 0), ints(5, 5, 5, 5), ints(0, 0, 1, 1)}, // the first of three plans
		{stock(10, 0), ints(2, 2, 2, 8), ints(0, 0, 0, 1)},
		{stock(10, 0), ints(2, 9, 2, 8), ints(0, 1, 0, 2)},
		{stock(10, 0), ints(6, 6, 6), ints(0, 1, 2)},
		{stock(10, 0), ints(4, 6, 5, 5), ints(0, 0, 1, 1)},
		{stock(10, 1), ints(5, 4, 4, 5), ints(0, 0, 1, 1)},
		{stock(10, 1), ints(5, 5, 4, 4), ints(0, 1, 0, 1)},
		{stock(800, 100), ints(800, 800), ints(0, 1)},
		{stock(800, 0), ints(800), ints(0)},
		{stock(800, 0), nil, nil},
		{stock(10000, 0), slices.Repeat(ints(625), 16), slices.Repeat(ints(0), 16)},
		{stock(1, 0), slices.Repeat(ints(1), 16), ints(0, 1, 2, 3, 4, 5, 6, 7, 8, 9, 10, 11, 12, 13, 14, 15)},
	} {
		l, e := Fewest(c.s, c.pieces)
		wantList(t, "Fewest", l, e, c.want, api.OK)
	}
}

func TestPlansOfNoPieces(t *testing.T) {
	s := stock(800, 5)
	for _, none := range [][]int{nil, {}} {
		for _, find := range []func(api.Stock, []int) ([]int, api.Errno){FirstFit, Fewest} {
			l, e := find(s, none)
			wantList(t, "a plan of no pieces", l, e, nil, api.OK)
		}
		uses, e := Uses(s, none, none)
		wantNumber(t, "Uses without pieces", uses, e, 0, api.OK)
		bound, e := Bound(s, none)
		wantNumber(t, "Bound without pieces", bound, e, 0, api.OK)
		if !Proved(s, none, none) {
			t.Error("the plan of no pieces is not proved")
		}
	}
}

func TestPlansErrors(t *testing.T) {
	for name, find := range map[string]func(api.Stock, []int) ([]int, api.Errno){"FirstFit": FirstFit, "Fewest": Fewest, "Longest": Longest} {
		for _, s := range badStocks() {
			for _, pieces := range [][]int{nil, ints(1), ints(10000), ints(0)} {
				l, e := find(s, pieces)
				wantList(t, name, l, e, nil, api.ErrInvalid)
			}
		}
		for _, pieces := range badPieces() {
			l, e := find(stock(800, 0), pieces)
			wantList(t, name, l, e, nil, api.ErrInvalid)
		}
		// Pieces that are not valid come before one that is longer than a bar.
		l, e := find(stock(800, 0), ints(900, 0))
		wantList(t, name, l, e, nil, api.ErrInvalid)
	}
	for _, s := range badStocks() {
		n, e := Bound(s, ints(1))
		wantNumber(t, "Bound", n, e, 0, api.ErrInvalid)
	}
	for _, pieces := range badPieces() {
		n, e := Bound(stock(800, 0), pieces)
		wantNumber(t, "Bound", n, e, 0, api.ErrInvalid)
	}
	for _, pieces := range [][]int{ints(801), ints(10000), ints(300, 801), ints(801, 1, 1)} {
		for _, kerf := range []int{0, 100} {
			l, e := FirstFit(stock(800, kerf), pieces)
			wantList(t, "FirstFit", l, e, nil, api.ErrNone)
			l, e = Fewest(stock(800, kerf), pieces)
			wantList(t, "Fewest", l, e, nil, api.ErrNone)
		}
	}
}

// P3.2

func TestFewestIsTheFirstOfAllPlans(t *testing.T) {
	r := sample()
	for range 1500 {
		s, pieces := someCase(r, 8)
		if len(pieces) > 0 && slices.Max(pieces) > s.Bar {
			continue
		}
		l, e := Fewest(s, pieces)
		if want := bruteFewest(s, pieces); e != api.OK || !slices.Equal(l, want) {
			t.Fatalf("Fewest(%v, %v) = %v, %d, want %v", s, pieces, l, e, want)
		}
	}
	for range 15 {
		s, pieces := stock(30, r.Intn(3)), some(r, 10, 5, 16)
		l, e := Fewest(s, pieces)
		if want := bruteFewest(s, pieces); e != api.OK || !slices.Equal(l, want) {
			t.Fatalf("Fewest(%v, %v) = %v, %d, want %v", s, pieces, l, e, want)
		}
	}
}

func TestFewestUsesAsManyAsSetsSay(t *testing.T) {
	r := sample()
	for range 60 {
		s, pieces := stock(100, r.Intn(10)), some(r, 12, 10, 60)
		l, e := Fewest(s, pieces)
		uses, e2 := Uses(s, pieces, l)
		if want := fewestBySets(s, pieces); e != api.OK || e2 != api.OK || uses != want {
			t.Fatalf("Fewest(%v, %v) = %v, %d, want %d bars", s, pieces, l, e, want)
		}
	}
}

func TestFewestFirstFitAndBound(t *testing.T) {
	r := sample()
	for range 400 {
		s, pieces := someCase(r, 16)
		if len(pieces) == 0 || slices.Max(pieces) > s.Bar {
			continue
		}
		plan, _ := Fewest(s, pieces)
		fewest, e := Uses(s, pieces, plan)
		if e != api.OK {
			t.Fatalf("Fewest(%v, %v) = %v is not right", s, pieces, plan)
		}
		other, _ := FirstFit(s, pieces)
		fit, e := Uses(s, pieces, other)
		if e != api.OK || fewest > fit {
			t.Fatalf("first fit of %v, %v uses %d bars, %d, Fewest %d", s, pieces, fit, e, fewest)
		}
		bound, e := Bound(s, pieces)
		if e != api.OK || bound > fewest {
			t.Fatalf("the bound of %v, %v is %d, %d, Fewest uses %d", s, pieces, bound, e, fewest)
		}
		less := pieces[:len(pieces)-1]
		plan, _ = Fewest(s, less)
		if n, e := Uses(s, less, plan); e != api.OK || n > fewest {
			t.Fatalf("%v, %v needs more bars without its last piece", s, pieces)
		}
	}
}

// P3.1: Fewest also ends soon where there are many plans.
func TestFewestEndsSoon(t *testing.T) {
	begun := time.Now()
	for _, c := range []struct {
		s      api.Stock
		pieces []int
		want   int
	}{
		{stock(10000, 0), ints(3333, 3334, 3333, 3334, 3333, 3334, 3333, 3334, 3333, 3334, 3333, 3334, 3333, 3334, 3333, 3334), 6},
		{stock(100, 0), ints(51, 27, 26, 23, 51, 27, 26, 23, 51, 27, 26, 23, 51, 27, 26, 23), 6},
		{stock(10000, 7), ints(1250, 1251, 1252, 1253, 1254, 1255, 1256, 1257, 1258, 1259, 1260, 1261, 1262, 1263, 1264, 1265), 3},
		{stock(1000, 0), ints(501, 502, 503, 504, 251, 252, 253, 254, 255, 256, 257, 258, 245, 246, 247, 248), 6},
		{stock(10000, 0), ints(1689, 1855, 2115, 2146, 2314, 2371, 2711, 3028, 3548, 3646, 3908, 4040, 4081, 4125, 4186, 4237), 5}, // there is just no waste
		{stock(2, 0), slices.Repeat(ints(1), 16), 8},
		{stock(3, 0), slices.Repeat(ints(2), 16), 16},
	} {
		plan, e := Fewest(c.s, c.pieces)
		uses, e2 := Uses(c.s, c.pieces, plan)
		if e != api.OK || e2 != api.OK || uses != c.want {
			t.Errorf("Fewest(%v, %v) = %v, %d: %d bars, want %d", c.s, c.pieces, plan, e, uses, c.want)
		}
	}
	if d := time.Since(begun); d > 20*time.Second {
		t.Error("Fewest took", d)
	}
}

func TestBound(t *testing.T) {
	for _, c := range []struct {
		bar    int
		pieces []int
		want   int
	}{
		{800, ints(500, 500, 500), 3},
		{800, ints(400, 400, 400, 400), 2}, // half a bar is not more than half
		{800, ints(401, 401), 2},
		{800, ints(400, 400, 1), 2},   // 801 in all
		{800, ints(800), 1},           // as long as a bar: among the big ones at k 0
		{800, ints(800, 800, 1), 3},   // nothing spare in the big ones
		{800, ints(799, 799, 2), 3},   // by k 2: nothing of 2 goes beside 799
		{10, ints(7, 7, 3, 3), 2},     // just as much spare as needed
		{800, ints(900, 900), 2},      // longer than a bar: each a bar of its own
		{800, ints(900, 800, 100), 3}, // by k 0
		{800, ints(900, 1), 2},        // and nothing goes beside it
		{10, ints(6, 6, 5), 3},        // by k 5 alone, which is half a bar
		{11, ints(7, 7, 5), 3},        // by k 5 alone, which is half a bar rounded down
		{10, ints(7, 7, 3, 3, 3), 3},  // 7 is not longer than 10 - 3
		{10, ints(7, 7, 4, 3), 3},     // by k 4: 7 is longer than 10 - 4, 4 as long as k
		{10, ints(8, 8, 3, 2), 3},     // by k 3, which leaves out the 2
		{10, ints(1, 1, 1), 1},
		{1, ints(1, 1, 1), 3},
		{1, ints(10000, 1), 2},
		{10000, slices.Repeat(ints(10000), 16), 16},
		{10000, nil, 0},
	} {
		for _, kerf := range []int{0, 100} { // kerfs are left out
			n, e := Bound(stock(c.bar, kerf), c.pieces)
			if n != c.want || e != api.OK {
				t.Errorf("Bound of %v for bars of %d = %d, %d, want %d", c.pieces, c.bar, n, e, c.want)
			}
		}
	}
	r := sample()
	for range 3000 {
		bar := 1 + r.Intn(40)
		pieces := some(r, r.Intn(17), 1, bar+r.Intn(4))
		n, e := Bound(stock(bar, 3), pieces)
		if want := bruteBound(bar, pieces); e != api.OK || n != want {
			t.Fatalf("Bound of %v for bars of %d = %d, %d, want %d", pieces, bar, n, e, want)
		}
	}
}

// bruteBound makes a list of each class of pieces for each k.
func bruteBound(bar int, pieces []int) int {
	bound := 0
	for k := 0; 2*k <= bar; k++ {
		var a, b, s []int
		for _, p := range pieces {
			if p > bar-k {
				a = append(a, p)
			} else if 2*p > bar {
				b = append(b, p)
			} else if p >= k {
				s = append(s, p)
			}
		}
		n := len(a) + len(b)
		if over := big.NewRat(int64(sum(s)-(len(b)*bar-sum(b))), int64(bar)); over.Sign() > 0 {
			for whole := 0; over.Cmp(big.NewRat(int64(whole), 1)) > 0; whole++ {
				n++
			}
		}
		bound = max(bound, n)
	}
	return bound
}

func TestProved(t *testing.T) {
	for _, c := range []struct {
		s            api.Stock
		pieces, plan []int
		want         bool
	}{
		{stock(800, 0), ints(300, 300, 500), ints(0, 0, 1), true},
		{stock(800, 0), ints(300, 300, 500), ints(0, 1, 0), true},
		{stock(800, 0), ints(300, 300, 500), ints(0, 1, 2), false}, // one too many
		{stock(800, 0), ints(300, 300, 500), ints(1, 1, 0), false}, // not right, though it uses two
		{stock(800, 0), ints(300, 300, 500), ints(0, 0), false},
		{stock(800, 0), ints(500, 500, 500), ints(0, 1, 2), true},
		{stock(800, 5), ints(400, 400), ints(0, 1), false}, // the fewest, but the bound leaves out kerfs
		{stock(800, 0), ints(900), ints(0), false},         // longer than a bar
		{stock(800, 0), ints(900, 100), ints(0, 1), false},
		{stock(800, 0), nil, nil, true},
		{stock(800, 0), nil, ints(0), false}, // not right, though it uses none
		{stock(0, 0), nil, nil, false},
		{stock(800, 101), nil, nil, false},
		{stock(800, 0), ints(0), ints(0), false},
	} {
		if got := Proved(c.s, c.pieces, c.plan); got != c.want {
			t.Errorf("Proved(%v, %v, %v) = %t", c.s, c.pieces, c.plan, got)
		}
	}
}

// P3.3

func TestProvedPlansUseTheFewest(t *testing.T) {
	r := sample()
	proved := 0
	for range 400 {
		s, pieces := someCase(r, 6)
		if len(pieces) > 0 && slices.Max(pieces) > s.Bar {
			continue
		}
		best, _ := Fewest(s, pieces)
		fewest, _ := Uses(s, pieces, best)
		bound, _ := Bound(s, pieces)
		allPlans(len(pieces), func(plan []int, uses int) {
			got := Proved(s, pieces, plan)
			if got && uses != fewest || got != (bruteRight(s, pieces, plan) && uses == bound) {
				t.Fatalf("Proved(%v, %v, %v) = %t", s, pieces, plan, got)
			}
			if got {
				proved++
			}
		})
	}
	if proved == 0 {
		t.Error("no plan is proved")
	}
}

func TestNumbered(t *testing.T) {
	for _, c := range []struct{ plan, want []int }{
		{ints(5, 5, 2, 5, 9), ints(0, 0, 1, 0, 2)},
		{ints(0, 1, 2), ints(0, 1, 2)},
		{ints(2, 1, 0), ints(0, 1, 2)},
		{ints(1, 0, 1), ints(0, 1, 0)},
		{ints(math.MaxInt, 0, math.MaxInt), ints(0, 1, 0)},
		{ints(7), ints(0)},
		{nil, nil},
		{ints(), nil},
		{ints(15, 14, 13, 12, 11, 10, 9, 8, 7, 6, 5, 4, 3, 2, 1, 0), ints(0, 1, 2, 3, 4, 5, 6, 7, 8, 9, 10, 11, 12, 13, 14, 15)},
	} {
		l, e := Numbered(c.plan)
		wantList(t, "Numbered", l, e, c.want, api.OK)
	}
	for _, bad := range [][]int{ints(-1), ints(0, -1), ints(0, 1, math.MinInt), make([]int, 17), make([]int, 1000000)} {
		l, e := Numbered(bad)
		wantList(t, "Numbered", l, e, nil, api.ErrRange)
	}
}

// P3.6

func TestNumberedPlansAreRight(t *testing.T) {
	r := sample()
	for range 5000 {
		s, pieces := someCase(r, 16)
		names := some(r, len(pieces), 0, r.Intn(20))
		numbered, e := Numbered(names)
		if e != api.OK {
			t.Fatal("Numbered", names, e)
		}
		holds := true
		for _, b := range names {
			var l []int
			for i, p := range pieces {
				if names[i] == b {
					l = append(l, p)
				}
			}
			holds = holds && bruteFit(s.Bar, s.Kerf, l)
		}
		if Right(s, pieces, numbered) != holds {
			t.Fatalf("Right(%v, %v, %v) = %t", s, pieces, numbered, !holds)
		}
		again, e := Numbered(numbered)
		wantList(t, "Numbered again", again, e, numbered, api.OK)
	}
	allPlans(6, func(plan []int, _ int) {
		l, e := Numbered(plan)
		wantList(t, "Numbered of a right plan", l, e, plan, api.OK)
	})
}
