package bill

import (
	"math"
	"math/rand"
	"slices"
	"strconv"
	"strings"
	"testing"

	"clinch/api"
)

var extremes = []int{math.MinInt, math.MinInt + 1, -1000000001, -1000000000, -100001, -1, 0, 1, 2, 3, 15, 16, 64, 65, 999, 1000, 1001, 99999, 100000, 100001, 1000000, 1000001, 1000000000, 1000000001, 1 << 32, math.MaxInt - 1, math.MaxInt}

// Numbers that are none of what they should be.
var (
	noDays    = ints(-1, 100001, math.MinInt, math.MaxInt)
	noPrices  = ints(-1, 100001, math.MinInt, math.MaxInt)
	noSets    = ints(-1, 16, 17, 31, math.MinInt, math.MaxInt)
	noShared  = ints(-1, 1000001, math.MinInt, math.MaxInt) // also no weights
	noTaxed   = ints(-1, 1000000001, math.MinInt, math.MaxInt)
	noTaxes   = ints(-1, 1001, math.MinInt, math.MaxInt)
	noAmounts = ints(0, -1000000001, 1000000001, math.MinInt, math.MaxInt)
)

func ints(l ...int) []int {
	return l
}

func sample() *rand.Rand {
	return rand.New(rand.NewSource(9))
}

// alike is the same thing so many times.
func alike[T any](count int, x T) []T {
	return slices.Repeat([]T{x}, count)
}

// entries are those of a text like "0 ann 500; 3 ann -300".
func entries(text string) []api.Entry {
	var l []api.Entry
	for _, line := range strings.Split(text, ";") {
		if words := strings.Fields(line); len(words) == 3 {
			l = append(l, api.Entry{Day: number(words[0]), Account: words[1], Amount: number(words[2])})
		}
	}
	return l
}

// items are those of a text like "0:200 5:200".
func items(text string) []api.Item {
	var l []api.Item
	for _, word := range strings.Fields(text) {
		day, amount, _ := strings.Cut(word, ":")
		l = append(l, api.Item{Day: number(day), Amount: number(amount)})
	}
	return l
}

func number(word string) int {
	n, err := strconv.Atoi(word)
	if err != nil {
		panic(word)
	}
	return n
}

// example are the entries of the chapter.
func example() []api.Entry {
	return entries("0 ann 500; 3 ann -300; 5 ann 200")
}

// mixed are entries of several accounts.
func mixed() []api.Entry {
	return entries("0 ann 500; 0 bob -50; 2 cy_1 7; 3 ann -300; 3 bob 80; 3 ann -250; 5 ann 90; 100000 bob -30; 100000 ann 1")
}

func badNames() []string {
	return []string{"", " ", "_", "0", "_a", "0a", "A", "aB", "a b", " a", "a ", "a-b", "a.", "a\n", "a\x00", "\x00", "\u00e4", "a\u00e4", "a\u0663", "`", "{", "a`", "a{", "a/", "a:", "a^", "abcdefghijklmnopq", strings.Repeat("a", 1000000)}
}

// badEntry has an entry for each way in which one alone is not valid.
func badEntry() []api.Entry {
	var l []api.Entry
	for _, name := range badNames() {
		l = append(l, api.Entry{Day: 5, Account: name, Amount: 100})
	}
	for _, n := range noDays {
		l = append(l, api.Entry{Day: n, Account: "ann", Amount: 100})
	}
	for _, n := range noAmounts {
		l = append(l, api.Entry{Day: 5, Account: "ann", Amount: n})
	}
	return l
}

// badEntries has entries for each way of not being valid.
func badEntries() [][]api.Entry {
	list := [][]api.Entry{
		alike(1001, api.Entry{Day: 5, Account: "ann", Amount: 100}),
		alike(1000000, api.Entry{Day: 5, Account: "ann", Amount: 100}),
		make([]api.Entry, 1000000),
		entries("5 ann 1; 4 ann 1"),
		entries("0 ann 1; 5 ann 1; 4 bob 1; 5 ann 1"),
		entries("0 ann 1; 100000 ann 1; 99999 ann 1"),
	}
	for _, x := range badEntry() {
		list = append(list, []api.Entry{x}, append(entries("0 ann 1; 5 bob 2"), x), append([]api.Entry{x}, entries("100000 ann 1")...))
	}
	return list
}

// someEntries are so many entries of three accounts and of the days from 0 to the last one.
func someEntries(r *rand.Rand, count, last int) []api.Entry {
	var days []int
	for range count {
		days = append(days, r.Intn(last+1))
	}
	slices.Sort(days)
	var l []api.Entry
	for _, day := range days {
		x := api.Entry{Day: day, Account: []string{"ann", "bob", "cy_1"}[r.Intn(3)], Amount: 1 + r.Intn(9)}
		if r.Intn(20) == 0 {
			x.Amount *= 100000000
		}
		if r.Intn(2) == 0 {
			x.Amount = -x.Amount
		}
		l = append(l, x)
	}
	return l
}

// bruteBalance adds up an account's amounts up to a day.
func bruteBalance(l []api.Entry, name string, day int) int {
	owed, paid := bruteSums(l, name, 0, day+1)
	return owed - paid
}

// bruteSums adds up what came to be owed and what was paid from a day to the day before another one.
func bruteSums(l []api.Entry, name string, from, to int) (owed, paid int) {
	for _, x := range l {
		switch {
		case x.Account != name || x.Day < from || x.Day >= to:
		case x.Amount > 0:
			owed += x.Amount
		default:
			paid -= x.Amount
		}
	}
	return owed, paid
}

// bruteItems uses that all that was paid goes to the oldest debts, whenever it was paid.
func bruteItems(l []api.Entry, name string, day int) (items []api.Item, ahead int) {
	_, paid := bruteSums(l, name, 0, day+1)
	for _, x := range l {
		if x.Account != name || x.Day > day || x.Amount < 0 {
			continue
		}
		if x.Amount > paid {
			items = append(items, api.Item{Day: x.Day, Amount: x.Amount - paid})
		}
		paid = max(0, paid-x.Amount)
	}
	return items, paid
}

// bruteClears looks at all days up to a last one, from which on nothing changes.
func bruteClears(l []api.Entry, name string, last int) (int, api.Errno) {
	if bruteBalance(l, name, last) > 0 {
		return 0, api.ErrNone
	}
	for day := last; day > 0; day-- {
		if bruteBalance(l, name, day-1) > 0 {
			return day, api.OK
		}
	}
	return 0, api.OK
}

// bruteShares gives the pence that are left one by one to the first of those with the greatest remainder that have got none.
func bruteShares(amount int, weights []int) []int {
	all := 0
	for _, weight := range weights {
		all += weight
	}
	if all == 0 {
		return bruteShares(amount, alike(len(weights), 1))
	}
	shares := make([]int, len(weights))
	left := amount
	for i, weight := range weights {
		for (shares[i]+1)*all <= amount*weight {
			shares[i]++
		}
		left -= shares[i]
	}
	got := make([]bool, len(weights))
	for ; left > 0; left-- {
		best := -1
		for i, weight := range weights {
			if !got[i] && (best < 0 || (amount*weight)%all > (amount*weights[best])%all) {
				best = i
			}
		}
		got[best] = true
		shares[best]++
	}
	return shares
}

func wantErrno(t *testing.T, what string, got, want api.Errno) {
	t.Helper()
	if got != want {
		t.Errorf("%s: errno %d, want %d", what, got, want)
	}
}

// wantList also holds a list that comes with an error against nothing.
func wantList[T comparable](t *testing.T, what string, got []T, e api.Errno, want []T, wantE api.Errno) {
	t.Helper()
	wantErrno(t, what, e, wantE)
	if !slices.Equal(got, want) {
		t.Errorf("%s: %v, want %v", what, got[:min(len(got), 70)], want[:min(len(want), 70)])
	}
}

// wantValue also holds a value that comes with an error against zero.
func wantValue[T comparable](t *testing.T, what string, got T, e api.Errno, want T, wantE api.Errno) {
	t.Helper()
	wantErrno(t, what, e, wantE)
	if got != want {
		t.Errorf("%s: %v, want %v", what, got, want)
	}
}
