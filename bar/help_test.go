package bar

import (
	"math"
	"math/rand"
	"slices"
	"testing"

	"clinch/api"
)

var extremes = []int{math.MinInt, math.MinInt + 1, -101, -1, 0, 1, 2, 15, 16, 17, 64, 99, 100, 101, 800, 1000, 1001, 9999, 10000, 10001, math.MaxInt - 1, math.MaxInt}

func stock(bar, kerf int) api.Stock {
	return api.Stock{Bar: bar, Kerf: kerf}
}

func ints(l ...int) []int {
	return l
}

func sample() *rand.Rand {
	return rand.New(rand.NewSource(3))
}

// some is n numbers from lo to hi.
func some(r *rand.Rand, n, lo, hi int) []int {
	l := make([]int, n)
	for i := range l {
		l[i] = lo + r.Intn(hi-lo+1)
	}
	return l
}

// badStocks has a stock for each way of not being valid.
func badStocks() []api.Stock {
	return []api.Stock{{}, stock(0, 5), stock(-1, 0), stock(10001, 0), stock(800, -1), stock(800, 101), stock(math.MaxInt, 0), stock(math.MinInt, 0), stock(800, math.MaxInt), stock(800, math.MinInt)}
}

// badPieces has pieces for each way of not being valid.
func badPieces() [][]int {
	return [][]int{ints(0), ints(300, 0), ints(-1, 300), ints(300, 10001), ints(math.MinInt), ints(math.MaxInt), slices.Repeat(ints(1), 17), make([]int, 1000000)}
}

func wantErrno(t *testing.T, what string, got, want api.Errno) {
	t.Helper()
	if got != want {
		t.Errorf("%s: errno %d, want %d", what, got, want)
	}
}

// wantList also holds a list that comes with an error against nothing.
func wantList(t *testing.T, what string, got []int, e api.Errno, want []int, wantE api.Errno) {
	t.Helper()
	if e != wantE || !slices.Equal(got, want) {
		t.Errorf("%s: %v, errno %d, want %v, errno %d", what, got, e, want, wantE)
	}
}

func wantNumber(t *testing.T, what string, got int, e api.Errno, want int, wantE api.Errno) {
	t.Helper()
	if e != wantE || got != want {
		t.Errorf("%s: %d, errno %d, want %d, errno %d", what, got, e, want, wantE)
	}
}

// bruteFit cuts one piece after the other: each cut takes a kerf, if there is still something behind the piece.
func bruteFit(length, kerf int, pieces []int) bool {
	for _, p := range pieces {
		if p > length {
			return false
		}
		length -= p + kerf
	}
	return true
}

// bruteRight sorts the pieces by their bars.
func bruteRight(s api.Stock, pieces, plan []int) bool {
	if len(plan) != len(pieces) {
		return false
	}
	used := 0
	for _, b := range plan {
		if b < 0 || b > used {
			return false
		}
		used = max(used, b+1)
	}
	for b := range used {
		var l []int
		for i, p := range pieces {
			if plan[i] == b {
				l = append(l, p)
			}
		}
		if !bruteFit(s.Bar, s.Kerf, l) {
			return false
		}
	}
	return true
}

// allPlans gives all lists of n numbers whose bars are numbered in the order of their use, the first one first. The list stays its own.
func allPlans(n int, yield func(plan []int, uses int)) {
	plan := make([]int, n)
	var from func(i, uses int)
	from = func(i, uses int) {
		if i == n {
			yield(plan, uses)
			return
		}
		for b := range uses + 1 {
			plan[i] = b
			from(i+1, max(uses, b+1))
		}
	}
	from(0, 0)
}

// bruteFewest is the first of the right plans that use the fewest bars.
func bruteFewest(s api.Stock, pieces []int) []int {
	least, found := math.MaxInt, []int(nil)
	allPlans(len(pieces), func(plan []int, uses int) {
		if uses < least && bruteRight(s, pieces, plan) {
			least, found = uses, slices.Clone(plan)
		}
	})
	return found
}

// fewestBySets counts the bars that each set of pieces needs, by all of its parts that are cut from one bar.
func fewestBySets(s api.Stock, pieces []int) int {
	single := func(set int) bool {
		var l []int
		for i, p := range pieces {
			if set>>i&1 == 1 {
				l = append(l, p)
			}
		}
		return bruteFit(s.Bar, s.Kerf, l)
	}
	fits := make([]bool, 1<<len(pieces))
	for set := range fits {
		fits[set] = single(set)
	}
	needs := make([]int, len(fits))
	for set := 1; set < len(needs); set++ {
		needs[set] = math.MaxInt
		for part := set; part > 0; part = (part - 1) & set {
			if fits[part] {
				needs[set] = min(needs[set], needs[set&^part]+1)
			}
		}
	}
	return needs[len(needs)-1]
}

// someCase is a stock and pieces of which none is longer than a bar.
func someCase(r *rand.Rand, most int) (api.Stock, []int) {
	s := stock(1+r.Intn(20), r.Intn(4))
	if r.Intn(3) == 0 {
		s = stock(100+r.Intn(9901), r.Intn(101))
	}
	lo := 1
	if r.Intn(2) == 0 {
		lo = 1 + s.Bar/5
	}
	return s, some(r, r.Intn(most+1), lo, max(lo, s.Bar*(1+r.Intn(3))/3))
}
