package van_test

import (
	"fmt"
	"slices"
	"strconv"
	"testing"

	"clinch/api"
	"clinch/hoof"
)

// 10.1: the lines of the table. Rows are in the order in which the errors are looked for.

func TestExample(t *testing.T) {
	played(t, config(), `
		horse bob ann 90000000 72000000 60000000 60000000: horses 1
		consent bob 3 900: consent
		trim bob: taken 10000000
		shoe bob 300 6 0: ErrStock
		hoof bob: 80000000 72000000 60000000 60000000
	`)
}

func TestDay(t *testing.T) {
	x := played(t, config(), `
		day 9: ErrRange
		day 0: ErrRange
		day 100001: ErrRange
		day 9999999999: ErrRange
		day 10: day 10
		horse bob ann 80000000 72000000 60000000 50000000: horses 1
		day 10: day 10
		hoof bob: 80000000 72000000 60000000 50000000
		day 11: day 11
		hoof bob: 80250000 72200000 60150000 50100000
		horse cy ann 1 2 3 4: horses 2
		day 11: day 11
		hoof cy: 1 2 3 4
		day 10: ErrRange
		day 31: day 31
		hoof bob: 85250000 76200000 63150000 52100000
		hoof cy: 5000001 4000002 3000003 2000004
		day 32: day 32
		hoof bob: 85375000 76300000 63225000 52150000
		day 100000: ErrLimit
		day 100001: ErrRange
		day 31: ErrRange
		day 365: day 365
	`)
	h, _ := x.Hoof("bob")
	want, _ := hoof.Grown(api.Hoof{Toe: 80000000, Heel: 72000000, In: 60000000, Out: 50000000}, config().Rates, config().Season, 10, 365)
	wantValue(t, "the hoof on the day 365", h, want)
	x = setUp(t, config())
	wantReply(t, x, "day 100000", "day 100000")
	wantReply(t, x, "day 100000", "day 100000")
	wantValue(t, "Day", x.Day(), 100000)
}

func TestDayBeyondMaxLength(t *testing.T) {
	// One of the four walls of one of many horses is too long, each at a time.
	for _, long := range []string{"500000000 1 1 1", "1 500000000 1 1", "1 1 500000000 1", "1 1 1 500000000"} {
		x := setUp(t, config())
		for i := range 10 {
			wantReply(t, x, fmt.Sprintf("horse h%d ann 1 1 1 1", i), "horses "+strconv.Itoa(i+1))
		}
		wantReply(t, x, "horse long ann "+long, "horses 11")
		for range 10 {
			wantRefused(t, x, "day 11", api.ErrLimit)
		}
		wantReply(t, x, "day 10", "day 10")
		wantRefused(t, x, "day 9", api.ErrRange)
	}
	// Just long enough.
	played(t, config(), `
		horse bob ann 499750000 499800000 499850000 499900000: horses 1
		day 12: ErrLimit
		day 11: day 11
		hoof bob: 500000000 500000000 500000000 500000000
		day 12: ErrLimit
	`)
}

func TestHorse(t *testing.T) {
	x := played(t, config(), `
		horse Bob ann 1 2 3 4: ErrName
		horse bob Ann 1 2 3 4: ErrName
		horse bob ann 0 500000000 0 500000000: horses 1
		hoof bob: 0 500000000 0 500000000
		horse bob Ann 1 2 3 4: ErrName
		horse bob ann 1 2 3 4: ErrDuplicate
		horse bob joe 5 6 7 8: ErrDuplicate
		horse bob ann 500000001 1 1 1: ErrDuplicate
		horse Cy ann 500000001 1 1 1: ErrName
		horse cy ann 500000001 1 1 1: ErrInvalid
		horse cy ann 1 500000001 1 1: ErrInvalid
		horse cy ann 1 1 500000001 1: ErrInvalid
		horse cy ann 1 1 1 500000001: ErrInvalid
		horse cy ann 9999999999 1 1 1: ErrInvalid
		horse cy ann 4 3 2 1: horses 2
		hoof cy: 4 3 2 1
		horse ann ann 1 1 1 1: horses 3
		horse joe bob 1 1 1 1: horses 4
		next joe 0 1: ErrNone
	`)
	for i := len(x.Horses()); i < 64; i++ {
		wantReply(t, x, fmt.Sprintf("horse h%d ann 1 1 1 1", i), fmt.Sprintf("horses %d", i+1))
	}
	play(t, x, `
		horse New ann 1 1 1 1: ErrName
		horse new Ann 1 1 1 1: ErrName
		horse bob ann 1 1 1 1: ErrDuplicate
		horse new ann 1 500000001 1 1: ErrInvalid
		horse new ann 1 1 1 1: ErrLimit
	`)
	wantValue(t, "horses", len(x.Horses()), 64)
}

func TestConsent(t *testing.T) {
	played(t, config(), `
		consent bob 1 900: ErrName
		consent bob 16 900: ErrName
		horse bob ann 80000000 72000000 60000000 60000000: horses 1
		horse cy ann 80000000 72000000 60000000 60000000: horses 2
		consent ann 1 900: ErrName
		next bob 0 1: ErrNone
		consent bob 16 900: ErrInvalid
		consent bob 1 100001: ErrInvalid
		consent bob 9999999999 9999999999: ErrInvalid
		consent bob 1 100000: consent
		next bob 0 1: next 10
		next bob 3 1: next 10
		next bob 0 2: ErrNone
		next cy 0 1: ErrNone
		consent bob 14 11: consent
		next bob 0 1: ErrNone
		next bob 0 2: next 10
		next bob 0 4: next 10
		next bob 0 8: next 10
		consent bob 16 900: ErrInvalid
		next bob 0 2: next 10
		consent bob 15 10: consent
		next bob 0 2: ErrNone
		consent bob 15 11: consent
		day 11: day 11
		next bob 0 2: ErrNone
		consent bob 15 0: consent
		consent bob 0 900: consent
		next bob 0 1: ErrNone
	`)
}

func TestOrder(t *testing.T) {
	x := played(t, config(), `
		order bob rest 10 50 15 6: ErrName
		order bob Rest 50 10 16 16: ErrName
		horse bob ann 80000000 72000000 60000000 60000000: horses 1
		horse cy ann 80000000 72000000 60000000 60000000: horses 2
		order bob Rest 10 50 15 6: ErrInvalid
		order bob rest 10 10 15 6: ErrInvalid
		order bob rest 11 10 15 6: ErrInvalid
		order bob rest 10 100001 15 6: ErrInvalid
		order bob rest 9999999999 50 15 6: ErrInvalid
		order bob rest 10 50 0 6: ErrInvalid
		order bob rest 10 50 16 6: ErrInvalid
		order bob rest 10 50 15 0: ErrInvalid
		order bob rest 10 50 15 16: ErrInvalid
		order bob rest 10 50 15 6: orders 1
		order bob rest 10 50 15 6: ErrDuplicate
		order bob rest 50 10 15 6: ErrInvalid
		order cy rest 0 100000 1 1: orders 1
		day 13: day 13
		order bob rest 60 70 1 1: ErrDuplicate
		order bob cy 60 70 1 1: orders 2
		order cy light 60 70 2 8: orders 2
	`)
	l, _ := x.Rules("bob")
	wantList(t, "Rules of bob", l, []api.Rule{{Name: "rest", At: 10, From: 10, To: 50, Feet: 15, Jobs: 6}, {Name: "cy", At: 13, From: 60, To: 70, Feet: 1, Jobs: 1}})
	l, _ = x.Rules("cy")
	wantList(t, "Rules of cy", l, []api.Rule{{Name: "rest", At: 10, From: 0, To: 100000, Feet: 1, Jobs: 1}, {Name: "light", At: 13, From: 60, To: 70, Feet: 2, Jobs: 8}})
}

func TestReplace(t *testing.T) {
	x := played(t, config(), `
		replace bob light 20 30 1 4 rest: ErrName
		replace bob Light 30 20 16 16 rest: ErrName
		horse bob ann 80000000 72000000 60000000 60000000: horses 1
		horse cy ann 80000000 72000000 60000000 60000000: horses 2
		order bob rest 10 50 15 6: orders 1
		order cy other 10 50 15 6: orders 1
		day 20: day 20
		replace bob Light 20 30 1 4 rest: ErrInvalid
		replace bob light 30 20 1 4 rest: ErrInvalid
		replace bob light 20 30 0 4 rest: ErrInvalid
		replace bob light 20 30 1 16 rest: ErrInvalid
		replace bob light 30 20 1 4 none: ErrInvalid
		replace bob rest 20 30 1 4 none: ErrDuplicate
		replace bob rest 20 30 1 4 rest: ErrDuplicate
		replace bob light 20 30 1 4 none: ErrName
		replace bob light 20 30 1 4 light: ErrName
		replace bob light 20 30 1 4 other: ErrName
		replace bob light 20 30 1 4 Rest: ErrName
		replace bob light 20 30 1 4 rest: orders 2
		replace bob more 20 30 1 4 rest: ErrState
		replace bob light 20 30 1 4 rest: ErrDuplicate
		replace bob more 20 25 1 4 light: orders 3
		replace bob again 20 25 1 4 none: ErrName
		order bob again 20 25 1 4: orders 4
		replace cy rest 20 30 1 4 other: orders 2
	`)
	l, _ := x.Rules("bob")
	wantList(t, "Rules", l, []api.Rule{
		{Name: "rest", At: 10, From: 10, To: 50, Feet: 15, Jobs: 6},
		{Name: "light", At: 20, From: 20, To: 30, Feet: 1, Jobs: 4, Replaces: "rest"},
		{Name: "more", At: 20, From: 20, To: 25, Feet: 1, Jobs: 4, Replaces: "light"},
		{Name: "again", At: 20, From: 20, To: 25, Feet: 1, Jobs: 4},
	})
}

func TestAtMost100Orders(t *testing.T) {
	x := played(t, config(), `
		horse bob ann 80000000 72000000 60000000 60000000: horses 1
		horse cy ann 80000000 72000000 60000000 60000000: horses 2
	`)
	for i := range 100 {
		wantReply(t, x, fmt.Sprintf("order bob o%d 5 6 1 1", i), fmt.Sprintf("orders %d", i+1))
	}
	play(t, x, `
		order bob New 5 6 1 1: ErrInvalid
		order bob new 5 6 1 1: ErrLimit
		order bob o1 5 6 1 1: ErrLimit
		replace bob new 5 6 1 1 o1: ErrLimit
		replace bob new 5 6 1 1 none: ErrLimit
		replace bob new 6 5 1 1 none: ErrInvalid
		order cy new 5 6 1 1: orders 1
	`)
}

func TestBuy(t *testing.T) {
	x := played(t, config(), `
		buy 0 0: bars 0 nails 0
		buy 2 0: bars 2 nails 0
		buy 0 7: bars 2 nails 7
		buy 63 0: ErrLimit
		buy 9999999999 0: ErrLimit
		buy 0 9999999999: ErrLimit
		buy 9999999999 9999999999: ErrLimit
		buy 0 999994: ErrLimit
		buy 62 999994: ErrLimit
		buy 63 999993: ErrLimit
		buy 61 999992: bars 63 nails 999999
		buy 2 0: ErrLimit
		buy 0 2: ErrLimit
		buy 1 1: bars 64 nails 1000000
		buy 1 0: ErrLimit
		buy 0 1: ErrLimit
		buy 0 0: bars 64 nails 1000000
	`)
	wantList(t, "Rests", x.Rests(), slices.Repeat(ints(800), 64))
	wantValue(t, "Nails", x.Nails(), 1000000)
	played(t, config(), `
		buy 65 0: ErrLimit
		buy 0 1000001: ErrLimit
		buy 64 1000000: bars 64 nails 1000000
	`)
	if l := x.Entries(); len(l) != 0 {
		t.Error("what is bought is entered:", l)
	}
}

func TestTrim(t *testing.T) {
	x := played(t, config(), `
		trim bob: ErrName
		horse bob ann 90000000 72000000 60000000 65000009: horses 1
		trim ann: ErrName
		trim bob: ErrOrder
		consent bob 1 900: consent
		trim bob: taken 10000009
		hoof bob: 80000000 72000000 60000000 65000000
		owed ann: owed 8000
		trim bob: taken 0
		owed ann: owed 16000
		horse cy joe 80000000 80000001 70000003 60000000: horses 2
		consent cy 15 900: consent
		trim cy: taken 5000004
		hoof cy: 80000000 80000000 65000000 60000000
		hoof bob: 80000000 72000000 60000000 65000000
		owed joe: owed 8000
		owed ann: owed 16000
	`)
	wantList(t, "Entries", x.Entries(), []api.Entry{{Day: 10, Account: "ann", Amount: 8000}, {Day: 10, Account: "ann", Amount: 8000}, {Day: 10, Account: "joe", Amount: 8000}})
	if len(x.Rests()) != 0 || x.Nails() != 0 {
		t.Error("a trim takes bars or nails")
	}
}

func TestTrimTakesOfAllWalls(t *testing.T) {
	played(t, config(), `
		horse bob ann 500000000 450000000 500000000 100000000: horses 1
		horse cy ann 500000000 500000000 1000000 500000000: horses 2
		consent bob 1 900: consent
		consent cy 1 900: consent
		trim bob: taken 395000000
		trim cy: taken 494000000
		hoof cy: 500000000 500000000 1000000 6000000
	`)
}

// hurdles is a horse that no order and no debt keeps from work, with bars and nails.
const hurdles = `
	horse bob ann 80000000 72000000 60000000 60000000: horses 1
	consent bob 15 900: consent
	buy 4 100: bars 4 nails 100
`

func TestOrdersForbid(t *testing.T) {
	for foot := range 4 {
		for _, c := range []struct {
			jobs             int
			trim, shoe, hots string
		}{
			{1, "ErrOrder", "bars 4 nails 76", "bars 4 nails 52"},
			{2, "taken 0", "ErrOrder", "ErrOrder"},
			{4, "taken 0", "bars 4 nails 76", "ErrOrder"},
			{8, "taken 0", "bars 4 nails 76", "bars 4 nails 52"},
			{6, "taken 0", "ErrOrder", "ErrOrder"},
			{15, "ErrOrder", "ErrOrder", "ErrOrder"},
		} {
			x := played(t, config(), hurdles)
			wantReply(t, x, fmt.Sprintf("order bob rest 10 20 %d %d", 1<<foot, c.jobs), "orders 1")
			play(t, x, "trim bob: "+c.trim+"\nshoe bob 150 6 0: "+c.shoe+"\nshoe bob 150 6 1: "+c.hots)
		}
	}
	// From the first day of an order to the day before its last one, and not behind what replaces it.
	played(t, with(func(c *api.Config) { c.Rates = api.Rates{} }), hurdles+`
		order bob rest 12 20 15 3: orders 1
		trim bob: taken 0
		shoe bob 10 1 0: bars 4 nails 96
		day 11: day 11
		trim bob: taken 0
		day 12: day 12
		trim bob: ErrOrder
		shoe bob 10 1 0: ErrOrder
		day 19: day 19
		trim bob: ErrOrder
		day 20: day 20
		trim bob: taken 0
		shoe bob 10 1 0: bars 4 nails 92
		order bob more 0 100 4 1: orders 2
		trim bob: ErrOrder
		shoe bob 10 1 0: bars 4 nails 88
		replace bob light 20 30 4 2 more: orders 3
		trim bob: taken 0
		shoe bob 10 1 0: ErrOrder
	`)
}

func TestConsentsAllow(t *testing.T) {
	for jobs := range 16 {
		x := played(t, config(), hurdles)
		wantReply(t, x, fmt.Sprintf("consent bob %d 11", jobs), "consent")
		for _, c := range []struct {
			line string
			asks int
		}{{"trim bob", 1}, {"shoe bob 10 1 0", 2}, {"shoe bob 10 1 1", 6}} {
			y := x.Copy()
			_, e := y.Do(c.line)
			if jobs&c.asks == c.asks {
				wantErrno(t, fmt.Sprint(c.line, " with a consent for ", jobs), e, api.OK)
			} else {
				wantErrno(t, fmt.Sprint(c.line, " with a consent for ", jobs), e, api.ErrOrder)
			}
			wantReply(t, y, "consent bob 15 10", "consent")
			wantRefused(t, y, c.line, api.ErrOrder)
		}
	}
	// HOT asks for JHot only if it is 1.
	played(t, config(), hurdles+`
		consent bob 2 900: consent
		shoe bob 10 1 2: ErrRange
		shoe bob 10 1 1: ErrOrder
		shoe bob 10 1 0: bars 4 nails 96
	`)
}

func TestMoney(t *testing.T) {
	still := with(func(c *api.Config) { c.Rates = api.Rates{}; c.Credit = 7999 })
	// A debt is late when it is more than 30 days old.
	x := played(t, still, hurdles+`
		horse cy joe 80000000 72000000 60000000 60000000: horses 2
		consent cy 15 900: consent
		trim bob: taken 0
		day 40: day 40
		trim bob: taken 0
		shoe bob 10 1 0: bars 4 nails 96
		day 41: day 41
		trim bob: ErrMoney
		shoe bob 10 1 0: ErrMoney
		trim cy: taken 0
		owed ann: owed 22000
		pay joe 5000: owed 3000
		trim bob: ErrMoney
		pay ann 1: owed 21999
		trim bob: taken 0
		shoe bob 10 1 1: bars 4 nails 92
	`)
	// The debts of the day 40 are late on the day 71, too: what was paid of the older one does not count.
	play(t, x, `
		day 71: day 71
		pay ann 13999: owed 25200
		trim bob: ErrMoney
		pay ann 1: owed 25199
		trim bob: taken 0
	`)
	// Exactly the credit is no hurdle; without any credit no late penny is.
	for _, c := range []struct {
		credit int
		reply  string
	}{{8000, "taken 0"}, {7999, "ErrMoney"}, {1, "ErrMoney"}, {0, "ErrMoney"}, {api.MaxAmount, "taken 0"}} {
		played(t, with(func(x *api.Config) { x.Rates = api.Rates{}; x.Credit = c.credit }), hurdles+`
			trim bob: taken 0
			day 41: day 41
			trim bob: `+c.reply)
	}
	// What is paid ahead, and another horse's debts with the same owner.
	played(t, with(func(c *api.Config) { c.Rates = api.Rates{}; c.Credit = 0 }), hurdles+`
		horse cy ann 80000000 72000000 60000000 60000000: horses 2
		consent cy 15 900: consent
		pay ann 8000: owed -8000
		trim bob: taken 0
		day 50: day 50
		trim bob: taken 0
		trim cy: taken 0
		day 81: day 81
		trim cy: ErrMoney
		trim bob: ErrMoney
		pay ann 16000: owed 0
		trim cy: taken 0
	`)
}

func TestTrimErrorsInOrder(t *testing.T) {
	// The hoof can't be trimmed, its owner owes, its entries are full, and orders forbid it: one falls away after the other.
	c := with(func(c *api.Config) { c.Rates = api.Rates{}; c.Credit = 0 })
	x := played(t, c, hurdles+"trim bob: taken 0\nhorse cy ann 900000 900000 900000 900000: horses 2\nday 41: day 41\n")
	doAll(t, x, 999, "pay zed 1")
	play(t, x, `
		trim nobody: ErrName
		trim cy: ErrOrder
		consent cy 1 900: consent
		order cy no 41 42 8 1: orders 1
		trim cy: ErrOrder
		replace cy yes 41 42 8 2 no: orders 2
		trim cy: ErrMoney
		trim bob: ErrMoney
		pay ann 8000: ErrLimit
	`)
	y := played(t, c, hurdles+"horse cy ann 900000 900000 900000 900000: horses 2\nconsent cy 1 900: consent\n")
	doAll(t, y, 1000, "pay zed 1")
	play(t, y, `
		trim cy: ErrNone
		trim bob: ErrLimit
	`)
}

func TestWhatIsFreeIsNotEntered(t *testing.T) {
	for _, c := range []struct {
		prices           [4]int
		trim, cold, hots int
	}{
		{[4]int{0, 0, 0, 1200}, 0, 0, 0},
		{[4]int{0, 1500, 0, 0}, 0, 6000, 6000},
		{[4]int{0, 0, 800, 0}, 0, 0, 3200},
		{[4]int{1, 0, 0, 0}, 4, 0, 0},
		{[4]int{100000, 100000, 100000, 100000}, 400000, 400000, 800000},
		{[4]int{1, 20, 300, 4000}, 4, 80, 1280},
	} {
		for _, done := range []struct {
			line   string
			amount int
		}{{"trim bob", c.trim}, {"shoe bob 10 1 0", c.cold}, {"shoe bob 10 1 1", c.hots}} {
			x := played(t, with(func(x *api.Config) { x.Prices = c.prices }), hurdles)
			doAll(t, x, 1, done.line)
			var want []api.Entry
			if done.amount > 0 {
				want = []api.Entry{{Day: 10, Account: "ann", Amount: done.amount}}
			}
			wantList(t, fmt.Sprint(done.line, " for ", c.prices), x.Entries(), want)
			// With the last entry made there is no place for another one, and none is asked for without it.
			y := played(t, with(func(x *api.Config) { x.Prices = c.prices }), hurdles)
			doAll(t, y, 1000, "pay zed 1")
			if done.amount > 0 {
				wantRefused(t, y, done.line, api.ErrLimit)
			} else {
				doAll(t, y, 1, done.line)
			}
			wantValue(t, "entries", len(y.Entries()), 1000)
		}
	}
}

func TestShoe(t *testing.T) {
	x := played(t, config(), `
		horse bob ann 80000000 72000000 60000000 60000000: horses 1
		consent bob 15 900: consent
		buy 2 48: bars 2 nails 48
		shoe bob 300 6 0: bars 2 nails 24
		owed ann: owed 6000
		hoof bob: 80000000 72000000 60000000 60000000
	`)
	// 300 and 5, twice from each bar.
	wantList(t, "Rests", x.Rests(), ints(190, 190))
	play(t, x, `
		shoe bob 190 6 0: ErrStock
		shoe bob 191 6 0: ErrStock
		buy 1 0: bars 3 nails 24
		shoe bob 190 7 0: ErrStock
		shoe bob 190 6 1: bars 1 nails 0
		owed ann: owed 15200
	`)
	wantList(t, "Rests without those of 0", x.Rests(), ints(410))
	play(t, x, `
		buy 2 3: bars 3 nails 3
		shoe bob 200 1 0: ErrStock
		shoe bob 200 0 0: bars 2 nails 3
	`)
	// 410 is cut to 205 and 0, then 800 to 595 and 390.
	wantList(t, "Rests, new ones at the end", x.Rests(), ints(390, 800))
	wantList(t, "Entries", x.Entries(), []api.Entry{{Day: 10, Account: "ann", Amount: 6000}, {Day: 10, Account: "ann", Amount: 9200}, {Day: 10, Account: "ann", Amount: 6000}})
}

func TestShoeTakesTheShortestRests(t *testing.T) {
	for _, c := range []struct {
		what, script string
		stock        api.Stock
		want         []int
	}{
		{"the pieces of one bar", "shoe bob 194 1 0: bars 4 nails 96", api.Stock{Bar: 800, Kerf: 5}, ints(4, 800, 800, 800)},
		{"less left than a cut takes", "shoe bob 196 1 0: bars 3 nails 96", api.Stock{Bar: 800, Kerf: 5}, ints(800, 800, 800)},
		{"the last cut on the end", "shoe bob 200 1 0: bars 3 nails 96", api.Stock{Bar: 800}, ints(800, 800, 800)},
		{"the last piece of the next bar", "shoe bob 199 1 0: bars 4 nails 96", api.Stock{Bar: 800, Kerf: 2}, ints(197, 599, 800, 800)},
		{"no kerf", "shoe bob 199 1 0: bars 4 nails 96", api.Stock{Bar: 800}, ints(4, 800, 800, 800)},
		{"a piece of each bar", "shoe bob 401 1 0: bars 4 nails 96", api.Stock{Bar: 800}, ints(399, 399, 399, 399)},
		{"whole bars", "shoe bob 800 1 0: bars 0 nails 96", api.Stock{Bar: 800, Kerf: 100}, nil},
		{"the longest bars", "shoe bob 10000 1 0: bars 0 nails 96", api.Stock{Bar: 10000, Kerf: 100}, nil},
		{"the shortest piece", "shoe bob 1 1 0: bars 4 nails 96", api.Stock{Bar: 800}, ints(796, 800, 800, 800)},
		{"the shortest rest, not the first one", "shoe bob 500 0 0: bars 4 nails 100\nbuy 4 0: bars 8 nails 100\nshoe bob 700 0 0: bars 8 nails 100\nshoe bob 90 0 0: bars 8 nails 100", api.Stock{Bar: 800}, ints(300, 300, 300, 300, 10, 10, 10, 10)},
		{"rests of 0 between others", "shoe bob 500 0 0: bars 4 nails 100\nbuy 4 0: bars 8 nails 100\nshoe bob 700 0 0: bars 8 nails 100\nbuy 1 0: bars 9 nails 100\nshoe bob 100 0 0: bars 5 nails 100", api.Stock{Bar: 800}, ints(300, 300, 300, 300, 800)},
		{"too little in the last rest", "shoe bob 400 0 0: bars 2 nails 100\nshoe bob 300 0 0: bars 2 nails 100\nshoe bob 200 0 0: ErrStock\nshoe bob 198 0 0: ErrStock", api.Stock{Bar: 800}, ints(200, 200)},
	} {
		x := played(t, with(func(x *api.Config) { x.Stock = c.stock }), hurdles)
		play(t, x, c.script)
		wantList(t, c.what, x.Rests(), c.want)
	}
}

func TestShoeErrorsInOrder(t *testing.T) {
	x := played(t, with(func(c *api.Config) { c.Credit = 0 }), `
		shoe bob 0 17 2: ErrName
		horse bob ann 90000000 72000000 60000000 60000000: horses 1
		horse cy ann 80000000 72000000 60000000 60000000: horses 2
		consent cy 1 900: consent
		trim cy: taken 0
		shoe ann 0 17 2: ErrName
		shoe bob 0 17 2: ErrOrder
		consent bob 2 900: consent
		order bob no 10 60 8 2: orders 1
		shoe bob 0 17 2: ErrOrder
		day 41: day 41
		shoe bob 0 17 2: ErrOrder
		replace bob yes 10 50 15 1 no: orders 2
		shoe bob 0 17 1: ErrOrder
		shoe bob 0 17 2: ErrMoney
		shoe bob 300 6 0: ErrMoney
		pay ann 8000: owed 0
		shoe bob 0 17 2: ErrRange
		shoe bob 0 6 0: ErrRange
		shoe bob 10001 6 0: ErrRange
		shoe bob 9999999999 6 0: ErrRange
		shoe bob 300 17 0: ErrRange
		shoe bob 300 9999999999 0: ErrRange
		shoe bob 300 6 2: ErrRange
		shoe bob 300 6 9999999999: ErrRange
		shoe bob 10000 16 0: ErrState
		shoe bob 1 0 0: ErrState
		consent bob 15 900: consent
		replace bob all 10 50 15 8 yes: orders 3
		trim bob: taken 10722223
		shoe bob 10000 16 0: ErrStock
		shoe bob 300 6 1: ErrStock
		shoe bob 300 0 1: ErrStock
		buy 1 1000: bars 1 nails 1000
		shoe bob 300 6 1: ErrStock
	`)
	doAll(t, x, 1000-len(x.Entries()), "pay zed 1")
	play(t, x, `
		shoe bob 300 6 1: ErrStock
		shoe bob 801 0 0: ErrStock
		buy 1 0: bars 2 nails 1000
		shoe bob 300 16 0: ErrLimit
		shoe bob 300 17 0: ErrRange
	`)
}

func TestShoeAsksForTheBounds(t *testing.T) {
	still := with(func(c *api.Config) { c.Rates = api.Rates{} })
	for _, walls := range []string{"80000001 72000000 60000000 60000000", "80000000 80000001 60000000 60000000", "80000000 72000000 60000000 65000001", "80000000 72000000 65000001 60000000", "1000000 999999 1000000 1000000", "999999 999999 999999 999999"} {
		played(t, still, "horse bob ann "+walls+`: horses 1
			consent bob 15 900: consent
			buy 9 99: bars 9 nails 99
			shoe bob 300 6 0: ErrState
			shoe bob 300 6 1: ErrState
		`)
	}
	for _, walls := range []string{"80000000 72000000 60000000 60000000", "80000000 80000000 60000000 65000000", "80000000 80000000 65000000 60000000", "1000000 1000000 1000000 1000000"} {
		played(t, still, "horse bob ann "+walls+`: horses 1
			consent bob 15 900: consent
			buy 9 99: bars 9 nails 99
			shoe bob 300 6 0: bars 9 nails 75
			hoof bob: `+walls)
	}
}

func TestShoeTakesNails(t *testing.T) {
	for each := range 17 {
		x := played(t, config(), hurdles+"shoe bob 1 0 0: bars 4 nails 100")
		wantReply(t, x, fmt.Sprintf("shoe bob 10 %d 0", each), fmt.Sprintf("bars 4 nails %d", 100-4*each))
	}
	for _, nails := range ints(0, 1, 3, 62, 63) {
		x := played(t, config(), "horse bob ann 80000000 72000000 60000000 60000000: horses 1\nconsent bob 15 900: consent")
		wantReply(t, x, fmt.Sprintf("buy 4 %d", nails), fmt.Sprintf("bars 4 nails %d", nails))
		wantRefused(t, x, "shoe bob 100 16 0", api.ErrStock)
		wantRefused(t, x, fmt.Sprintf("shoe bob 100 %d 0", nails/4+1), api.ErrStock)
		wantReply(t, x, fmt.Sprintf("shoe bob 100 %d 0", nails/4), fmt.Sprintf("bars 4 nails %d", nails%4))
	}
}

func TestPay(t *testing.T) {
	x := played(t, config(), `
		pay Ann 0: ErrName
		pay ann 0: ErrRange
		pay ann 1000000001: ErrRange
		pay ann 9999999999: ErrRange
		pay ann 1: owed -1
		pay ann 1000000000: owed -1000000001
		pay ann 1000000000: owed -2000000001
		pay joe 5: owed -5
		day 11: day 11
		pay ann 2: owed -2000000003
	`)
	wantList(t, "Entries", x.Entries(), []api.Entry{{Day: 10, Account: "ann", Amount: -1}, {Day: 10, Account: "ann", Amount: -1000000000}, {Day: 10, Account: "ann", Amount: -1000000000}, {Day: 10, Account: "joe", Amount: -5}, {Day: 11, Account: "ann", Amount: -2}})
	doAll(t, x, 995, "pay ann 1")
	play(t, x, `
		pay Ann 1: ErrName
		pay ann 0: ErrRange
		pay ann 1000000001: ErrRange
		pay ann 1: ErrLimit
		pay joe 1: ErrLimit
		owed ann: owed -2000000998
	`)
}

func TestOwed(t *testing.T) {
	x := played(t, config(), hurdles+`
		owed Ann: ErrName
		owed ann: owed 0
		owed bob: owed 0
		owed nobody: owed 0
		trim bob: taken 0
		owed ann: owed 8000
		owed bob: owed 0
		pay bob 3: owed -3
		day 50: day 50
		pay ann 1: owed 7999
		owed bob: owed -3
		owed ann: owed 7999
	`)
	wantValue(t, "entries", len(x.Entries()), 3)
}

func TestDue(t *testing.T) {
	played(t, with(func(c *api.Config) { c.Rates = api.Rates{Toe: 1} }), `
		due bob: ErrName
		horse bob ann 80000000 72018000 60000000 60000000: horses 1
		due ann: ErrName
		due bob: due 31
		day 30: day 30
		due bob: due 31
		day 31: day 31
		due bob: due 31
		day 40: day 40
		due bob: due 40
	`)
	played(t, with(func(c *api.Config) { c.Rates = api.Rates{} }), `
		horse bob ann 80000000 72000000 60000000 60000000: horses 1
		due bob: ErrNone
	`)
	played(t, with(func(c *api.Config) { c.Rates = api.Rates{Toe: 1, Heel: 1, In: 1, Out: 1} }), `
		horse bob ann 499999000 499999000 499999000 499999000: horses 1
		due bob: ErrLimit
	`)
}

func TestNext(t *testing.T) {
	played(t, with(func(c *api.Config) { c.Rates = api.Rates{} }), `
		next bob 0 1: ErrName
		next bob 4 3: ErrName
		horse bob ann 80000000 72000000 60000000 60000000: horses 1
		next bob 0 1: ErrNone
		next bob 4 1: ErrRange
		next bob 9999999999 1: ErrRange
		next bob 0 0: ErrRange
		next bob 0 3: ErrRange
		next bob 0 16: ErrRange
		consent bob 7 900: consent
		order bob rest 10 50 15 6: orders 1
		order bob more 5 60 4 2: orders 2
		next bob 0 1: next 10
		next bob 0 2: next 50
		next bob 2 2: next 60
		next bob 3 4: next 50
		next bob 0 8: ErrNone
		day 20: day 20
		next bob 0 1: next 20
		replace bob light 20 30 1 4 rest: orders 3
		next bob 0 4: next 30
		next bob 1 4: next 20
		next bob 2 2: next 60
		consent bob 7 60: consent
		next bob 2 2: ErrNone
		next bob 3 2: next 20
	`)
}

func TestHoof(t *testing.T) {
	played(t, config(), `
		hoof bob: ErrName
		horse bob ann 0 500000000 12 7: horses 1
		hoof bob: 0 500000000 12 7
		hoof ann: ErrName
		hoof bobb: ErrName
	`)
}

// P10.2: lines that do nothing are written into the book, too, and change nothing else.
func TestLinesThatDoNothing(t *testing.T) {
	x := played(t, config(), hurdles)
	for _, line := range []string{"owed ann", "due bob", "next bob 0 1", "hoof bob", "day 10", "buy 0 0", "consent bob 15 900"} {
		y := x.Copy()
		doAll(t, y, 1, line)
		wantValue(t, "the book", y.Book(), grown(x.Book(), line))
		wantValue(t, line+" changes", view(y)[:len(view(y))-len(y.Book())], view(x)[:len(view(x))-len(x.Book())])
	}
}
