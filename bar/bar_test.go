package bar

import (
	"math"
	"math/big"
	"slices"
	"testing"

	"clinch/api"
)

// 3.1

func TestValidStock(t *testing.T) {
	for _, s := range []api.Stock{stock(1, 0), stock(1, 100), stock(10000, 0), stock(10000, 100), stock(800, 5)} {
		if !ValidStock(s) {
			t.Error("not valid:", s)
		}
	}
	for _, s := range badStocks() {
		if ValidStock(s) {
			t.Error("valid:", s)
		}
	}
}

func TestValidPieces(t *testing.T) {
	for _, l := range [][]int{nil, {}, ints(1), ints(10000), slices.Repeat(ints(10000), 16), ints(1, 10000, 5, 5)} {
		if !ValidPieces(l) {
			t.Error("not valid:", l)
		}
	}
	for _, l := range badPieces() {
		if ValidPieces(l) {
			t.Error("valid:", l[:min(len(l), 20)])
		}
	}
}

func TestFit(t *testing.T) {
	for _, c := range []struct {
		length, kerf int
		pieces       []int
		want         bool
	}{
		{800, 5, ints(400, 395), true}, // the last cut falls on the end
		{800, 5, ints(400, 396), false},
		{800, 5, ints(800), true},
		{800, 5, ints(801), false},
		{800, 100, ints(800), true},
		{800, 0, ints(300, 300, 200), true},
		{800, 0, ints(300, 300, 201), false},
		{800, 5, ints(300, 300, 190), true},
		{800, 5, ints(300, 300, 191), false},
		{800, 5, nil, true},
		{0, 0, nil, true},
		{0, 100, ints(), true},
		{0, 100, ints(1), false},
		{1, 100, ints(1), true},
		{101, 100, ints(1, 1), false},
		{102, 100, ints(1, 1), true},
		{10000, 100, ints(10000), true},
		{10000, 0, slices.Repeat(ints(625), 16), true},
		{10000, 1, slices.Repeat(ints(625), 16), false},
		{10000, 100, slices.Repeat(ints(10000), 16), false},
		{-1, 100, nil, false},
		{10001, 0, nil, false},
		{math.MinInt, 0, nil, false},
		{math.MaxInt, 100, ints(1), false},
		{800, -1, ints(1), false},
		{800, 101, ints(1), false},
		{800, math.MinInt, ints(1), false},
		{800, math.MaxInt, ints(1), false},
	} {
		if got := Fit(c.length, c.kerf, c.pieces); got != c.want {
			t.Errorf("Fit(%d, %d, %v) = %t", c.length, c.kerf, c.pieces, got)
		}
	}
	for _, l := range badPieces() {
		if Fit(10000, 0, l) {
			t.Error("fit:", l[:min(len(l), 20)])
		}
	}
	r := sample()
	for range 20000 {
		length, kerf, l := r.Intn(40), r.Intn(5), some(r, r.Intn(6), 1, 12)
		if got, want := Fit(length, kerf, l), bruteFit(length, kerf, l); got != want {
			t.Fatalf("Fit(%d, %d, %v) = %t", length, kerf, l, got)
		}
	}
}

func TestRight(t *testing.T) {
	pieces := ints(300, 300, 500)
	for _, c := range []struct {
		plan []int
		want bool
	}{
		{ints(0, 0, 1), true},
		{ints(0, 1, 0), true},
		{ints(0, 1, 1), true},
		{ints(0, 1, 2), true},
		{ints(0, 0, 0), false}, // too long for one bar
		{ints(1, 1, 0), false}, // not numbered in the order of their use
		{ints(1, 0, 0), false},
		{ints(0, 2, 1), false},
		{ints(0, 0, 2), false},
		{ints(1, 1, 2), false},
		{ints(-1, 0, 1), false},
		{ints(0, -1, 0), false},
		{ints(0, 0, math.MaxInt), false},
		{ints(0, 0, math.MinInt), false},
		{ints(0, 0), false},
		{ints(0, 0, 1, 1), false},
		{nil, false},
	} {
		if got := Right(stock(800, 0), pieces, c.plan); got != c.want {
			t.Errorf("Right with the plan %v = %t", c.plan, got)
		}
	}
	if !Right(stock(800, 5), ints(400, 395), ints(0, 0)) || Right(stock(800, 5), ints(400, 396), ints(0, 0)) {
		t.Error("the last cut falls on the end")
	}
	if !Right(stock(800, 0), nil, nil) || !Right(stock(800, 0), ints(), ints()) || Right(stock(800, 0), nil, ints(0)) {
		t.Error("the plan of no pieces is empty")
	}
	if Right(stock(800, 0), ints(801), ints(0)) || Right(stock(800, 100), ints(801), ints(0)) {
		t.Error("a piece longer than a bar is in a right plan")
	}
}

func TestRightIsAsTheDefinition(t *testing.T) {
	r := sample()
	for range 20000 {
		s, pieces := someCase(r, 5)
		plan := some(r, len(pieces), 0, 2)
		if r.Intn(4) == 0 {
			plan = some(r, r.Intn(6), -1, 3)
		}
		if got, want := Right(s, pieces, plan), bruteRight(s, pieces, plan); got != want {
			t.Fatalf("Right(%v, %v, %v) = %t", s, pieces, plan, got)
		}
	}
}

func TestUsesRestsAndWaste(t *testing.T) {
	for _, c := range []struct {
		s            api.Stock
		pieces, plan []int
		rests        []int
		waste        int
	}{
		{stock(800, 0), ints(300, 300, 500), ints(0, 0, 1), ints(200, 300), 500},
		{stock(800, 5), ints(300, 300, 500), ints(0, 0, 1), ints(190, 295), 500},
		{stock(800, 0), ints(300, 300, 500), ints(0, 1, 0), ints(0, 500), 500},
		{stock(800, 5), ints(300, 300, 500), ints(0, 1, 2), ints(495, 495, 295), 1300},
		{stock(800, 5), ints(400, 395), ints(0, 0), ints(0), 5},  // 5 below 0
		{stock(800, 5), ints(400, 391), ints(0, 0), ints(0), 9},  // 1 below 0
		{stock(800, 5), ints(400, 390), ints(0, 0), ints(0), 10}, // just 0
		{stock(800, 5), ints(400, 389), ints(0, 0), ints(1), 11},
		{stock(800, 100), ints(800), ints(0), ints(0), 0},
		{stock(800, 0), ints(800), ints(0), ints(0), 0},
		{stock(800, 5), nil, nil, nil, 0},
		{stock(10000, 100), slices.Repeat(ints(1), 16), slices.Repeat(ints(0), 16), ints(8384), 9984},
	} {
		n, e := Uses(c.s, c.pieces, c.plan)
		wantNumber(t, "Uses", n, e, len(c.rests), api.OK)
		l, e := Rests(c.s, c.pieces, c.plan)
		wantList(t, "Rests", l, e, c.rests, api.OK)
		n, e = Waste(c.s, c.pieces, c.plan)
		wantNumber(t, "Waste", n, e, c.waste, api.OK)
	}
}

func TestUsesRestsAndWasteOfNoRightPlan(t *testing.T) {
	check := func(s api.Stock, pieces, plan []int) {
		t.Helper()
		n, e := Uses(s, pieces, plan)
		wantNumber(t, "Uses", n, e, 0, api.ErrInvalid)
		l, e := Rests(s, pieces, plan)
		wantList(t, "Rests", l, e, nil, api.ErrInvalid)
		n, e = Waste(s, pieces, plan)
		wantNumber(t, "Waste", n, e, 0, api.ErrInvalid)
		if Right(s, pieces, plan) || Proved(s, pieces, plan) {
			t.Error("right or proved:", s, plan)
		}
	}
	for _, s := range badStocks() {
		check(s, nil, nil)
		check(s, ints(1), ints(0))
	}
	for _, l := range badPieces() {
		check(stock(10000, 0), l, make([]int, len(l)))
	}
	for _, plan := range [][]int{nil, ints(0), ints(0, 0, 0), ints(1, 0, 1), ints(0, 2, 1), ints(0, -1, 0), ints(0, 0, 1, 1)} {
		check(stock(800, 0), ints(300, 300, 500), plan)
	}
	check(stock(800, 0), ints(900), ints(0)) // no ErrNone: no plan is looked for
}

// P3.4

func TestWasteAndRests(t *testing.T) {
	r := sample()
	for range 3000 {
		s, pieces := someCase(r, 8)
		plan, e := FirstFit(s, pieces)
		if e == api.ErrNone {
			continue
		}
		waste, e1 := Waste(s, pieces, plan)
		rests, e2 := Rests(s, pieces, plan)
		uses, e3 := Uses(s, pieces, plan)
		if e != api.OK || e1 != api.OK || e2 != api.OK || e3 != api.OK || len(rests) != uses {
			t.Fatal("no numbers of", s, pieces, plan)
		}
		all := 0
		for b, n := range rests {
			left := s.Bar
			for i, p := range pieces {
				if plan[i] == b {
					left -= p + s.Kerf
				}
			}
			if n != max(left, 0) {
				t.Fatalf("the rest %d of %v, %v by %v is %d", b, s, pieces, plan, n)
			}
			all += n
		}
		if waste < all || s.Kerf == 0 && waste != all {
			t.Fatalf("the waste of %v, %v by %v is %d, the rests are %v", s, pieces, plan, waste, rests)
		}
	}
}

// 3.4

func TestNeed(t *testing.T) {
	for _, c := range []struct{ long, wide, thick, want int }{
		{130, 120, 10, 400}, {1, 1, 1, 5}, {1000, 1000, 1000, 5000}, {1000, 1, 1, 2003}, {1, 1000, 1, 1004}, {1, 1, 1000, 2003}, {2, 30, 400, 834},
	} {
		n, e := Need(c.long, c.wide, c.thick)
		wantNumber(t, "Need", n, e, c.want, api.OK)
	}
	for _, bad := range []int{math.MinInt, -1, 0, 1001, math.MaxInt} {
		for i := range 3 {
			l := ints(1, 1, 1)
			l[i] = bad
			n, e := Need(l[0], l[1], l[2])
			wantNumber(t, "Need", n, e, 0, api.ErrRange)
		}
	}
}

func TestWeight(t *testing.T) {
	for _, c := range []struct{ length, wide, thick, density, want int }{
		{400, 20, 10, 7850, 628},
		{350, 22, 8, 7850, 483}, // 483.56
		{1, 1, 1, 9999, 0},
		{100, 10, 1, 999, 0},
		{100, 10, 1, 1000, 1},
		{1, 1, 10000, 100, 1},
		{0, 5, 5, 5, 0},
		{5, 0, 5, 5, 0},
		{5, 5, 0, 5, 0},
		{5, 5, 5, 0, 0},
		{10000, 10000, 10000, 10000, 10000000000},
		{9999, 9999, 9999, 9999, 9996000599},
	} {
		n, e := Weight(c.length, c.wide, c.thick, c.density)
		wantNumber(t, "Weight", n, e, c.want, api.OK)
	}
	for _, bad := range []int{math.MinInt, -1, 10001, math.MaxInt} {
		for i := range 4 {
			for _, other := range []int{0, 1, 10000} {
				l := ints(other, other, other, other)
				l[i] = bad
				n, e := Weight(l[0], l[1], l[2], l[3])
				wantNumber(t, "Weight", n, e, 0, api.ErrRange)
			}
		}
	}
	r := sample()
	for range 2000 {
		l := some(r, 4, 0, 10000)
		product := big.NewInt(1)
		for _, n := range l {
			product.Mul(product, big.NewInt(int64(n)))
		}
		product.Div(product, big.NewInt(1000000))
		n, e := Weight(l[0], l[1], l[2], l[3])
		wantNumber(t, "Weight", n, e, int(product.Int64()), api.OK)
	}
}
