package bill

import (
	"slices"
	"testing"

	"clinch/api"
)

// 9.2

func TestBalance(t *testing.T) {
	for _, c := range []struct {
		l    []api.Entry
		name string
		day  int
		want int
	}{
		{nil, "ann", 0, 0},
		{nil, "ann", 100000, 0},
		{example(), "bob", 100000, 0},
		{example(), "ann", 0, 500},
		{example(), "ann", 2, 500},
		{example(), "ann", 3, 200},
		{example(), "ann", 4, 200},
		{example(), "ann", 5, 400},
		{example(), "ann", 100000, 400},
		{mixed(), "ann", 3, -50},
		{mixed(), "ann", 99999, 40},
		{mixed(), "ann", 100000, 41},
		{mixed(), "bob", 0, -50},
		{mixed(), "bob", 100000, 0},
		{alike(1000, entries("5 ann 1000000000")[0]), "ann", 5, 1000000000000}, // beyond MaxAmount
		{alike(1000, entries("5 ann -1000000000")[0]), "ann", 5, -1000000000000},
	} {
		n, e := Balance(c.l, c.name, c.day)
		wantValue(t, "Balance of "+c.name, n, e, c.want, api.OK)
	}
}

func TestItemsAndAhead(t *testing.T) {
	for _, c := range []struct {
		what  string
		l     []api.Entry
		day   int
		want  []api.Item
		ahead int
	}{
		{"no entries", nil, 100000, nil, 0},
		{"another's entries", entries("0 bob 5; 1 bob -9"), 5, nil, 0},
		{"the example", example(), 5, items("0:200 5:200"), 0},
		{"the example, a day before", example(), 4, items("0:200"), 0},
		{"the example, at first", example(), 0, items("0:500"), 0},
		{"paid just", entries("0 ann 5; 1 ann -5"), 1, nil, 0},
		{"paid too much", entries("0 ann 5; 1 ann -7"), 1, nil, 2},
		{"paid ahead", entries("0 ann -7"), 0, nil, 7},
		{"paid ahead twice", entries("0 ann -7; 0 ann -1"), 0, nil, 8},
		{"owes less than was paid ahead", entries("0 ann -7; 1 ann 4"), 1, nil, 3},
		{"owes just what was paid ahead", entries("0 ann -7; 1 ann 7"), 1, nil, 0},
		{"owes more than was paid ahead", entries("0 ann -7; 1 ann 9"), 1, items("1:2"), 0},
		{"owes more than was paid ahead, and then again", entries("0 ann -7; 1 ann 9; 1 ann 3"), 1, items("1:2 1:3"), 0},
		{"several on a day, in order", entries("3 ann 9; 3 ann 1; 3 ann 9; 4 ann 2"), 4, items("3:9 3:1 3:9 4:2"), 0},
		{"pays several, the oldest first", entries("3 ann 9; 3 ann 1; 4 ann 9; 5 ann -12"), 5, items("4:7"), 0},
		{"pays part of the oldest", entries("3 ann 9; 3 ann 1; 5 ann -2"), 5, items("3:7 3:1"), 0},
		{"pays the oldest in parts", entries("3 ann 9; 3 ann 1; 5 ann -2; 5 ann -7"), 5, items("3:1"), 0},
		{"pays all and ahead", entries("3 ann 9; 3 ann 1; 5 ann -12; 6 ann 5"), 6, items("6:3"), 0},
		{"pays before it owes on the same day", entries("3 ann -4; 3 ann 6"), 3, items("3:2"), 0},
		{"others in between", entries("0 bob 9; 1 ann 5; 1 bob -20; 2 ann -3; 2 bob 4"), 2, items("1:2"), 0},
		{"the greatest amounts", alike(1000, entries("5 ann -1000000000")[0]), 5, nil, 1000000000000},
		{"as many items as can be", alike(1000, entries("5 ann 1000000000")[0]), 5, alike(1000, items("5:1000000000")[0]), 0},
	} {
		got, e := Items(c.l, "ann", c.day)
		wantList(t, "Items: "+c.what, got, e, c.want, api.OK)
		ahead, e := Ahead(c.l, "ann", c.day)
		wantValue(t, "Ahead: "+c.what, ahead, e, c.ahead, api.OK)
	}
}

func TestLate(t *testing.T) {
	paid := entries("0 ann 500; 10 ann 70; 20 ann -300; 40 ann 5; 41 ann -1000")
	for _, c := range []struct {
		l               []api.Entry
		day, days, want int
	}{
		{nil, 100000, 0, 0},
		{paid, 0, 0, 0}, // the day's own do not count
		{paid, 1, 0, 500},
		{paid, 1, 1, 0}, // not more than one day before
		{paid, 2, 1, 500},
		{paid, 10, 0, 500},
		{paid, 11, 0, 570},
		{paid, 19, 9, 500},
		{paid, 19, 8, 570},
		{paid, 20, 0, 270},
		{paid, 20, 10, 200},
		{paid, 20, 19, 200},
		{paid, 20, 20, 0},
		{paid, 30, 30, 0},
		{paid, 31, 30, 200},
		{paid, 40, 30, 200},
		{paid, 40, 29, 270},
		{paid, 40, 0, 270},
		{paid, 41, 0, 0},
		{paid, 100000, 0, 0},
		{entries("0 ann 5"), 100000, 99999, 5},
		{entries("0 ann 5"), 100000, 100000, 0},
		{entries("0 ann 5"), 0, 100000, 0},
		{entries("0 ann 5; 0 bob 9"), 1, 0, 5},
		{alike(1000, entries("5 ann 1000000000")[0]), 6, 0, 1000000000000},
	} {
		n, e := Late(c.l, "ann", c.day, c.days)
		wantValue(t, "Late", n, e, c.want, api.OK)
	}
}

// 9.3

func TestStatement(t *testing.T) {
	for _, c := range []struct {
		l        []api.Entry
		name     string
		from, to int
		want     api.Account
	}{
		{nil, "ann", 0, 100000, api.Account{}},
		{example(), "bob", 0, 100000, api.Account{}},
		{example(), "ann", 0, 0, api.Account{}},
		{example(), "ann", 0, 1, api.Account{Owed: 500, After: 500}},
		{example(), "ann", 0, 3, api.Account{Owed: 500, After: 500}},
		{example(), "ann", 0, 4, api.Account{Owed: 500, Paid: 300, After: 200}},
		{example(), "ann", 0, 6, api.Account{Owed: 700, Paid: 300, After: 400}},
		{example(), "ann", 1, 5, api.Account{Before: 500, Paid: 300, After: 200}},
		{example(), "ann", 3, 3, api.Account{Before: 500, After: 500}},
		{example(), "ann", 3, 6, api.Account{Before: 500, Owed: 200, Paid: 300, After: 400}},
		{example(), "ann", 4, 5, api.Account{Before: 200, After: 200}},
		{example(), "ann", 100000, 100000, api.Account{Before: 400, After: 400}},
		{mixed(), "ann", 3, 5, api.Account{Before: 500, Paid: 550, After: -50}},
		{mixed(), "ann", 5, 100000, api.Account{Before: -50, Owed: 90, After: 40}},
		{mixed(), "bob", 0, 100000, api.Account{Owed: 80, Paid: 50, After: 30}},
		{alike(1000, entries("5 ann -1000000000")[0]), "ann", 5, 6, api.Account{Paid: 1000000000000, After: -1000000000000}},
	} {
		a, e := Statement(c.l, c.name, c.from, c.to)
		wantValue(t, "Statement of "+c.name, a, e, c.want, api.OK)
	}
	for _, days := range [][2]int{{1, 0}, {6, 5}, {100000, 0}, {100000, 99999}, {100001, 100001}, {-1, 5}, {0, 100001}} {
		a, e := Statement(example(), "ann", days[0], days[1])
		wantValue(t, "Statement", a, e, api.Account{}, api.ErrRange)
	}
}

// 9.4

func TestClears(t *testing.T) {
	for _, c := range []struct {
		what, l string
		want    int
		e       api.Errno
	}{
		{"no entries", "", 0, api.OK},
		{"another owes", "3 bob 5", 0, api.OK},
		{"another owes and pays", "3 bob 5; 4 bob -5", 0, api.OK},
		{"owes", "3 ann 5", 0, api.ErrNone},
		{"the example", "0 ann 500; 3 ann -300; 5 ann 200", 0, api.ErrNone},
		{"pays just", "0 ann 5; 7 ann -5", 7, api.OK},
		{"pays more", "0 ann 5; 7 ann -6", 7, api.OK},
		{"pays less", "0 ann 5; 7 ann -4", 0, api.ErrNone},
		{"pays in parts", "0 ann 5; 7 ann -4; 9 ann -1", 9, api.OK},
		{"pays on the last day", "99999 ann 5; 100000 ann -5", 100000, api.OK},
		{"owes on the last day", "0 ann 5; 1 ann -5; 100000 ann 5", 0, api.ErrNone},
		{"pays within the day", "3 ann 5; 3 ann -5", 0, api.OK},
		{"pays within the day, and is ahead later", "3 ann 5; 3 ann -5; 7 ann -5", 0, api.OK},
		{"pays ahead", "3 ann -5; 4 ann 5; 5 ann -1", 0, api.OK},
		{"pays ahead, and owes more", "3 ann -5; 4 ann 7; 8 ann -2", 8, api.OK},
		{"owes again", "1 ann 5; 2 ann -5; 3 ann 5; 4 ann -5; 6 ann -1", 4, api.OK},
		{"owes again within a day", "1 ann 5; 2 ann -5; 3 ann 5; 3 ann -5", 2, api.OK},
		{"owes again within the day on which it is clear", "1 ann 5; 2 ann -5; 2 ann 5; 4 ann -5", 4, api.OK},
		{"clears at the end of a day alone", "1 ann 5; 2 ann 5; 2 ann -9; 2 ann -1", 2, api.OK},
		{"stays clear", "1 ann 5; 2 ann -9; 3 ann 4; 5 ann -1", 2, api.OK},
		{"another in between", "1 ann 5; 1 bob 5; 2 ann -5; 2 bob -1; 3 bob 7", 2, api.OK},
		{"another on the days before and after", "1 ann 5; 2 bob -9; 3 ann -5; 3 bob 5; 4 bob 5", 3, api.OK},
	} {
		day, e := Clears(entries(c.l), "ann")
		wantValue(t, c.what, day, e, c.want, c.e)
	}
}

// P9.3, P9.4 and all that 9.2 to 9.4 say of accounts

func TestAccountsAgainstBrute(t *testing.T) {
	r := sample()
	count := map[string]int{}
	for range 1500 {
		l := someEntries(r, r.Intn(25), 12)
		for _, name := range []string{"ann", "bob", "cy_1", "dan"} {
			for day := range 14 {
				checkDay(t, l, name, day, count)
			}
			clears, e := Clears(l, name)
			want, wantE := bruteClears(l, name, 13)
			wantValue(t, "Clears", clears, e, want, wantE)
			if clears > 0 {
				count["clears"]++
			}
			own, e := Of(l, name)
			wantList(t, "Of", own, e, slices.DeleteFunc(slices.Clone(l), func(x api.Entry) bool { return x.Account != name }), api.OK)
		}
		if t.Failed() {
			t.Fatal("for", l)
		}
	}
	for _, kind := range []string{"owed", "ahead", "late", "paid in part", "clears"} {
		if count[kind] < 500 {
			t.Error("too few of a kind:", count)
		}
	}
}

// checkDay holds what is asked about an account on a day against the chapter's own words, and counts the kinds of what comes out.
func checkDay(t *testing.T, l []api.Entry, name string, day int, count map[string]int) {
	t.Helper()
	got, e := Items(l, name, day)
	ahead, e2 := Ahead(l, name, day)
	want, wantAhead := bruteItems(l, name, day)
	wantList(t, "Items", got, e, want, api.OK)
	wantValue(t, "Ahead", ahead, e2, wantAhead, api.OK)
	if ahead > 0 {
		count["ahead"]++
	}
	total := 0
	for _, item := range got {
		total += item.Amount
		count["owed"]++
		if item.Amount <= 0 || !slices.ContainsFunc(l, func(x api.Entry) bool { return x.Account == name && x.Day == item.Day && x.Amount >= item.Amount }) {
			t.Error("an item from nowhere:", item)
		}
		if !slices.Contains(l, api.Entry{Day: item.Day, Account: name, Amount: item.Amount}) {
			count["paid in part"]++
		}
	}
	balance, e := Balance(l, name, day)
	wantValue(t, "Balance", balance, e, total-ahead, api.OK)
	wantValue(t, "Balance", balance, e, bruteBalance(l, name, day), api.OK)
	if total != 0 && ahead != 0 {
		t.Error("owes", total, "and has paid", ahead, "ahead")
	}
	for days := range 14 {
		sum := 0
		for _, item := range got {
			if day-item.Day > days {
				sum += item.Amount
			}
		}
		late, e := Late(l, name, day, days)
		wantValue(t, "Late", late, e, sum, api.OK)
		if late > 0 {
			count["late"]++
		}
	}
}

func TestStatementsJoin(t *testing.T) {
	r := sample()
	for range 300 {
		l := someEntries(r, r.Intn(40), 12)
		total := 0
		for _, x := range l {
			total += x.Amount
		}
		names, e := Accounts(l)
		wantErrno(t, "Accounts", e, api.OK)
		for _, name := range names {
			n, e := Balance(l, name, api.MaxDay)
			wantErrno(t, "Balance", e, api.OK)
			total -= n
			for days := range 14 * 14 {
				from, to := days%14, days/14
				if from <= to {
					checkStatement(t, l, name, from, to, to+r.Intn(3))
				}
			}
		}
		if total != 0 || t.Failed() {
			t.Fatal("the balances leave", total, "of", l)
		}
	}
}

func checkStatement(t *testing.T, l []api.Entry, name string, from, to, next int) {
	t.Helper()
	a, e := Statement(l, name, from, to)
	owed, paid := bruteSums(l, name, from, to)
	before := bruteBalance(l, name, from-1)
	wantValue(t, "Statement", a, e, api.Account{Before: before, Owed: owed, Paid: paid, After: before + owed - paid}, api.OK)
	b, e := Statement(l, name, to, next)
	wantErrno(t, "Statement", e, api.OK)
	if a.After != bruteBalance(l, name, to-1) || a.After != b.Before || a.After != a.Before+a.Owed-a.Paid {
		t.Error("Statements of", name, from, to, next, "are", a, b)
	}
}
