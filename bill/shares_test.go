package bill

import (
	"math"
	"slices"
	"testing"

	"clinch/api"
)

// 9.1

func TestShares(t *testing.T) {
	for _, c := range []struct {
		amount        int
		weights, want []int
	}{
		{100, ints(1, 1, 1), ints(34, 33, 33)},
		{100, ints(2, 3, 6), ints(18, 27, 55)},
		{0, ints(2, 3, 6), ints(0, 0, 0)},
		{0, ints(0), ints(0)},
		{7, ints(0), ints(7)},
		{7, ints(5), ints(7)},
		{1000000, ints(1000000), ints(1000000)},
		{7, ints(0, 0, 0), ints(3, 2, 2)},
		{8, ints(0, 0, 0), ints(3, 3, 2)},
		{7, ints(0, 1, 0), ints(0, 7, 0)},
		{1, ints(1, 1, 1), ints(1, 0, 0)},
		{1, ints(1, 2, 1), ints(0, 1, 0)},
		{2, ints(1, 1, 1), ints(1, 1, 0)},
		{3, ints(1, 2, 2), ints(1, 1, 1)}, // the remainders are 3, 1 and 1 fifths
		{5, ints(3, 1, 3, 1), ints(2, 1, 2, 0)},
		{5, ints(1, 3, 1, 3), ints(1, 2, 0, 2)},
		{10, ints(1000000, 1, 1000000), ints(5, 0, 5)},
		{1, ints(999999, 1000000), ints(0, 1)},
		{1, ints(1000000, 999999), ints(1, 0)},
		{1000000, ints(999999, 1000000, 1), ints(500000, 500000, 0)}, // 499,999.5, 500,000 and 0.5
		{1000000, alike(64, 1000000), alike(64, 15625)},
		{999999, alike(64, 0), append(alike(63, 15625), 15624)},
		{63, alike(64, 7), append(alike(63, 1), 0)},
	} {
		shares, e := Shares(c.amount, c.weights)
		wantList(t, "Shares", shares, e, c.want, api.OK)
		if !IsShares(c.amount, c.weights, c.want) {
			t.Error("no shares of", c.amount, "by", c.weights, ":", c.want)
		}
	}
}

func TestSharesErrors(t *testing.T) {
	check := func(amount int, weights []int) {
		t.Helper()
		shares, e := Shares(amount, weights)
		wantList(t, "Shares", shares, e, nil, api.ErrRange)
		if IsShares(amount, weights, nil) || IsShares(amount, weights, weights) || IsShares(amount, weights, ints(amount)) {
			t.Error("shares of", amount, "by", weights[:min(len(weights), 70)])
		}
	}
	for _, n := range noShared {
		check(n, ints(1))
		check(n, ints(0, 0))
		check(n, nil)
		check(0, ints(n))
		check(5, ints(1, n))
		check(5, append(ints(n), alike(63, 1)...))
	}
	for _, weights := range [][]int{nil, {}, alike(65, 1), alike(65, 0), make([]int, 1000000)} {
		check(0, weights)
		check(5, weights)
	}
}

func TestIsShares(t *testing.T) {
	for _, c := range []struct {
		amount          int
		weights, shares []int
		want            bool
	}{
		{100, ints(1, 1, 1), ints(34, 33, 33), true},
		{100, ints(1, 1, 1), ints(33, 34, 33), false}, // the first one gets the penny
		{100, ints(1, 1, 1), ints(33, 33, 33), false},
		{100, ints(1, 1, 1), ints(34, 34, 33), false},
		{100, ints(1, 1, 1), ints(34, 33), false},
		{100, ints(1, 1, 1), ints(34, 33, 33, 0), false},
		{100, ints(1, 1, 1), nil, false},
		{100, ints(2, 3, 6), ints(18, 27, 55), true},
		{100, ints(2, 3, 6), ints(19, 27, 54), false},
		{0, ints(1, 1), ints(0, 0), true},
		{0, ints(1, 1), nil, false},
		{0, ints(1, 1), ints(1, -1), false},
		{0, ints(1), ints(math.MinInt), false},
	} {
		if IsShares(c.amount, c.weights, c.shares) != c.want {
			t.Error("IsShares is not", c.want, "for", c.amount, c.weights, c.shares)
		}
	}
}

// P9.2

func TestSharesAddUp(t *testing.T) {
	r := sample()
	tied := 0
	for range 20000 {
		most := ints(1, 3, 20, 1000000)[r.Intn(4)]
		amount, weights := r.Intn(ints(3, 50, 500, 1000001)[r.Intn(4)]), make([]int, 1+r.Intn(ints(4, 64)[r.Intn(2)]))
		all := 0
		for i := range weights {
			weights[i] = r.Intn(most + 1)
			all += weights[i]
		}
		shares, e := Shares(amount, weights)
		wantErrno(t, "Shares", e, api.OK)
		if !IsShares(amount, weights, shares) {
			t.Fatal("no shares of", amount, "by", weights, ":", shares)
		}
		if amount < 500 || most < 1000000 && len(weights) < 5 {
			wantList(t, "Shares", shares, e, bruteShares(amount, weights), api.OK)
		}
		if len(shares) != len(weights) || sum(shares) != amount {
			t.Fatal("Shares of", amount, "by", weights, "are", shares)
		}
		if all == 0 {
			continue
		}
		for i, share := range shares {
			if least := amount * weights[i] / all; share != least && share != least+1 {
				t.Fatal("Shares of", amount, "by", weights, "are", shares)
			}
			for j, other := range shares {
				if weights[i] > weights[j] && share < other || weights[i] == weights[j] && i < j && share < other {
					t.Fatal("Shares of", amount, "by", weights, "are", shares)
				}
				if weights[i] == weights[j] && share > other {
					tied++
				}
			}
		}
	}
	if tied < 1000 {
		t.Error("only", tied, "pairs of which the first one got a penny more")
	}
}

func TestSharesOfAllSmallOnes(t *testing.T) {
	for n := range 6 * 6 * 6 * 20 {
		weights, amount := ints(n%6, n/6%6, n/36%6), n/216
		shares, e := Shares(amount, weights)
		wantList(t, "Shares", shares, e, bruteShares(amount, weights), api.OK)
		for wrong := range 3 {
			other := slices.Clone(shares)
			other[wrong]++
			other[(wrong+1)%3]--
			if IsShares(amount, weights, other) {
				t.Fatal("shares of", amount, "by", weights, ":", other)
			}
		}
	}
}
