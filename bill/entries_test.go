package bill

import (
	"maps"
	"slices"
	"testing"

	"clinch/api"
)

// 9.2

func TestValid(t *testing.T) {
	for _, l := range [][]api.Entry{
		nil,
		{},
		example(),
		mixed(),
		entries("0 a 1"),
		entries("100000 abcdefghijklmnop -1000000000"),
		entries("100000 a_9 1000000000; 100000 a_9 1000000000"),
		entries("5 bob 1; 5 ann 1; 5 bob -1; 6 ann 1"), // several on one day in any order
		alike(1000, api.Entry{Day: 5, Account: "ann", Amount: 100}),
	} {
		if !Valid(l) {
			t.Error("not valid:", l[:min(len(l), 5)])
		}
	}
	for _, l := range badEntries() {
		if Valid(l) {
			t.Error("valid:", l[:min(len(l), 5)])
		}
	}
}

// TestErrorsOfAll holds the errors that several calls share against each call: entries, then a name, then numbers.
func TestErrorsOfAll(t *testing.T) {
	check := func(l []api.Entry, name string, day, days int, want, wantOfName api.Errno) {
		t.Helper()
		n, e := Balance(l, name, day)
		wantValue(t, "Balance", n, e, 0, want)
		owed, e := Items(l, name, day)
		wantList(t, "Items", owed, e, nil, want)
		n, e = Ahead(l, name, day)
		wantValue(t, "Ahead", n, e, 0, want)
		n, e = Late(l, name, day, days)
		wantValue(t, "Late", n, e, 0, want)
		account, e := Statement(l, name, day, days)
		wantValue(t, "Statement", account, e, api.Account{}, want)
		own, e := Of(l, name)
		wantList(t, "Of", own, e, nil, wantOfName)
		n, e = Clears(l, name)
		wantValue(t, "Clears", n, e, 0, wantOfName)
	}
	for _, l := range badEntries() {
		check(l, "ann", 5, 9, api.ErrInvalid, api.ErrInvalid)
		check(l, "Ann", -1, 100001, api.ErrInvalid, api.ErrInvalid)
		names, e := Accounts(l)
		wantList(t, "Accounts", names, e, nil, api.ErrInvalid)
	}
	for _, name := range badNames() {
		check(example(), name, 5, 9, api.ErrName, api.ErrName)
		check(nil, name, -1, 100001, api.ErrName, api.ErrName)
	}
	for _, n := range noDays {
		check(example(), "bob", n, 9, api.ErrRange, api.OK)
		check(nil, "ann", n, n, api.ErrRange, api.OK)
		owed, e := Late(example(), "ann", 5, n)
		wantValue(t, "Late", owed, e, 0, api.ErrRange)
		account, e := Statement(example(), "ann", 0, n)
		wantValue(t, "Statement", account, e, api.Account{}, api.ErrRange)
	}
}

func TestAccounts(t *testing.T) {
	for _, c := range []struct {
		l    []api.Entry
		want []string
	}{
		{nil, nil},
		{example(), []string{"ann"}},
		{mixed(), []string{"ann", "bob", "cy_1"}},
		{entries("0 b 1; 0 a_ 1; 0 a 1; 0 a0 1; 0 aa 1; 1 b -1; 2 ab 1"), []string{"a", "a0", "a_", "aa", "ab", "b"}},
	} {
		names, e := Accounts(c.l)
		wantList(t, "Accounts", names, e, c.want, api.OK)
	}
	r := sample()
	for range 200 {
		var l []api.Entry
		want := map[string]bool{}
		for range r.Intn(1001) {
			name := string([]byte{byte('a' + r.Intn(26)), byte('a' + r.Intn(26))})
			want[name] = true
			l = append(l, api.Entry{Account: name, Amount: 1})
		}
		names, e := Accounts(l)
		wantList(t, "Accounts", names, e, slices.Sorted(maps.Keys(want)), api.OK)
	}
}

// 9.3

func TestOf(t *testing.T) {
	for _, c := range []struct {
		l    []api.Entry
		name string
		want []api.Entry
	}{
		{nil, "ann", nil},
		{example(), "bob", nil},
		{example(), "ann", example()},
		{mixed(), "ann", entries("0 ann 500; 3 ann -300; 3 ann -250; 5 ann 90; 100000 ann 1")},
		{mixed(), "bob", entries("0 bob -50; 3 bob 80; 100000 bob -30")},
		{mixed(), "cy_1", entries("2 cy_1 7")},
		{mixed(), "cy", nil},
		{mixed(), "cy_12", nil},
	} {
		own, e := Of(c.l, c.name)
		wantList(t, "Of "+c.name, own, e, c.want, api.OK)
	}
}

// 9.4

func TestAdded(t *testing.T) {
	full := alike(999, entries("5 ann 1")[0])
	for _, c := range []struct {
		l, x, want []api.Entry
	}{
		{nil, entries("7 ann 5"), entries("7 ann 5")},
		{example(), entries("0 bob 1"), entries("0 ann 500; 0 bob 1; 3 ann -300; 5 ann 200")},
		{example(), entries("2 bob 1"), entries("0 ann 500; 2 bob 1; 3 ann -300; 5 ann 200")},
		{example(), entries("3 aa 1"), entries("0 ann 500; 3 ann -300; 3 aa 1; 5 ann 200")},
		{example(), entries("5 ann -1"), entries("0 ann 500; 3 ann -300; 5 ann 200; 5 ann -1")},
		{example(), entries("100000 ann 1000000000"), entries("0 ann 500; 3 ann -300; 5 ann 200; 100000 ann 1000000000")},
		{entries("1 ann 1; 1 bob 2; 1 ann 3; 2 ann 4"), entries("0 ann 9"), entries("0 ann 9; 1 ann 1; 1 bob 2; 1 ann 3; 2 ann 4")},
		{entries("1 ann 1; 1 bob 2; 1 ann 3; 2 ann 4"), entries("1 ann 1"), entries("1 ann 1; 1 bob 2; 1 ann 3; 1 ann 1; 2 ann 4")},
		{full, entries("5 ann -1"), append(slices.Clone(full), entries("5 ann -1")...)},
	} {
		l, e := Added(c.l, c.x[0])
		wantList(t, "Added", l, e, c.want, api.OK)
	}
}

func TestAddedErrors(t *testing.T) {
	check := func(l []api.Entry, x api.Entry, want api.Errno) {
		t.Helper()
		added, e := Added(l, x)
		wantList(t, "Added", added, e, nil, want)
	}
	full := alike(1000, entries("5 ann 1")[0])
	for _, x := range badEntry() {
		check(nil, x, api.ErrInvalid)
		check(example(), x, api.ErrInvalid)
		check(full, x, api.ErrInvalid)
	}
	for _, l := range badEntries() {
		check(l, entries("5 ann 1")[0], api.ErrInvalid)
		check(l, api.Entry{}, api.ErrInvalid)
	}
	check(full, entries("0 bob 1")[0], api.ErrLimit)
	check(full, entries("100000 bob 1")[0], api.ErrLimit)
}

func TestMerged(t *testing.T) {
	one := entries("5 ann 1")
	for _, c := range []struct {
		a, b, want []api.Entry
	}{
		{nil, nil, nil},
		{example(), nil, example()},
		{nil, example(), example()},
		{example(), example(), entries("0 ann 500; 0 ann 500; 3 ann -300; 3 ann -300; 5 ann 200; 5 ann 200")},
		{entries("1 bob 1; 1 bob 2; 4 bob 3"), entries("0 ann 9; 1 ann 8; 1 ann 7; 3 ann 6; 9 ann 5"), entries("0 ann 9; 1 bob 1; 1 bob 2; 1 ann 8; 1 ann 7; 3 ann 6; 4 bob 3; 9 ann 5")},
		{entries("0 ann 9; 1 ann 8; 1 ann 7; 3 ann 6; 9 ann 5"), entries("1 bob 1; 1 bob 2; 4 bob 3"), entries("0 ann 9; 1 ann 8; 1 ann 7; 1 bob 1; 1 bob 2; 3 ann 6; 4 bob 3; 9 ann 5")},
		{alike(500, one[0]), alike(500, one[0]), alike(1000, one[0])},
		{alike(1000, one[0]), nil, alike(1000, one[0])},
		{entries("4 bob 1"), alike(999, one[0]), append(entries("4 bob 1"), alike(999, one[0])...)},
	} {
		l, e := Merged(c.a, c.b)
		wantList(t, "Merged", l, e, c.want, api.OK)
	}
}

func TestMergedErrors(t *testing.T) {
	check := func(a, b []api.Entry, want api.Errno) {
		t.Helper()
		merged, e := Merged(a, b)
		wantList(t, "Merged", merged, e, nil, want)
	}
	one := entries("5 ann 1")[0]
	full := alike(1000, one)
	for _, l := range badEntries() {
		check(l, nil, api.ErrInvalid)
		check(nil, l, api.ErrInvalid)
		check(l, l, api.ErrInvalid)
		check(l, full, api.ErrInvalid)
		check(full, l, api.ErrInvalid)
	}
	check(full, full, api.ErrLimit)
	check(full, example()[:1], api.ErrLimit)
	check(example()[:1], full, api.ErrLimit)
	check(alike(501, one), alike(500, one), api.ErrLimit)
}

func TestReversed(t *testing.T) {
	for _, c := range []struct {
		i, day int
		want   string
	}{
		{0, 0, "0 ann 500; 0 ann -500; 3 ann -300; 5 ann 200"},
		{0, 3, "0 ann 500; 3 ann -300; 3 ann -500; 5 ann 200"},
		{0, 4, "0 ann 500; 3 ann -300; 4 ann -500; 5 ann 200"},
		{1, 3, "0 ann 500; 3 ann -300; 3 ann 300; 5 ann 200"},
		{1, 100000, "0 ann 500; 3 ann -300; 5 ann 200; 100000 ann 300"},
		{2, 5, "0 ann 500; 3 ann -300; 5 ann 200; 5 ann -200"},
	} {
		l, e := Reversed(example(), c.i, c.day)
		wantList(t, "Reversed", l, e, entries(c.want), api.OK)
	}
	l, e := Reversed(entries("7 bob 1000000000; 7 ann -1000000000"), 1, 7)
	wantList(t, "Reversed", l, e, entries("7 bob 1000000000; 7 ann -1000000000; 7 ann 1000000000"), api.OK)
}

func TestReversedErrors(t *testing.T) {
	check := func(l []api.Entry, i, day int, want api.Errno) {
		t.Helper()
		reversed, e := Reversed(l, i, day)
		wantList(t, "Reversed", reversed, e, nil, want)
	}
	full := alike(1000, entries("5 ann 1")[0])
	for _, i := range append(noDays, 3, 1000) {
		check(example(), i, 100000, api.ErrRange)
		check(nil, i, 5, api.ErrRange)
		check(full, max(i, 1000), 5, api.ErrRange)
	}
	check(nil, 0, 0, api.ErrRange)
	check(example(), 1, 2, api.ErrRange) // before the day of the entry
	check(example(), 2, 4, api.ErrRange)
	for _, day := range noDays {
		check(example(), 0, day, api.ErrRange)
		check(full, 0, day, api.ErrRange)
	}
	check(full, 999, 4, api.ErrRange)
	check(full, 999, 5, api.ErrLimit)
	check(full, 0, 100000, api.ErrLimit)
	for _, l := range badEntries() {
		check(l, 0, 100000, api.ErrInvalid)
		check(l, -1, -1, api.ErrInvalid)
	}
}

// P9.5

func TestMergedBalancesAddUp(t *testing.T) {
	r := sample()
	for range 500 {
		a, b := someEntries(r, r.Intn(30), 12), someEntries(r, r.Intn(30), 12)
		merged, e := Merged(a, b)
		wantErrno(t, "Merged", e, api.OK)
		if !Valid(merged) || len(merged) != len(a)+len(b) {
			t.Fatal(a, "and", b, "are merged to", merged)
		}
		for _, name := range []string{"ann", "bob", "cy_1", "dan"} {
			for day := range 14 {
				n, _ := Balance(a, name, day)
				m, _ := Balance(b, name, day)
				both, e := Balance(merged, name, day)
				wantValue(t, "Balance", both, e, n+m, api.OK)
			}
		}
	}
}

func TestReversedTwiceIsTheSame(t *testing.T) {
	r := sample()
	for range 2000 {
		l := someEntries(r, 1+r.Intn(20), 12)
		i := r.Intn(len(l))
		day := l[i].Day + r.Intn(5)
		once, e := Reversed(l, i, day)
		wantErrno(t, "Reversed", e, api.OK)
		added := 0 // behind all entries of its day or an earlier one
		for _, x := range l {
			if x.Day <= day {
				added++
			}
		}
		if once[added] != (api.Entry{Day: day, Account: l[i].Account, Amount: -l[i].Amount}) {
			t.Fatal("Reversed of", l, i, day, "is", once)
		}
		twice, e := Reversed(once, added, day+r.Intn(5))
		wantErrno(t, "Reversed", e, api.OK)
		for _, name := range []string{"ann", "bob", "cy_1"} {
			before, _ := Balance(l, name, api.MaxDay)
			between, _ := Balance(once, name, api.MaxDay)
			after, e := Balance(twice, name, api.MaxDay)
			wantValue(t, "Balance", after, e, before, api.OK)
			if name == l[i].Account && between != before-l[i].Amount {
				t.Fatal("Reversed of", l, i, day, "has the balance", between)
			}
		}
	}
}

// P9.6

func TestAddedIsValid(t *testing.T) {
	r := sample()
	for range 2000 {
		l := someEntries(r, r.Intn(20), 12)
		x := someEntries(r, 1, 14)[0]
		added, e := Added(l, x)
		if e != api.OK || !Valid(added) || len(added) != len(l)+1 {
			t.Fatal("Added of", x, "to", l, "is", added, e)
		}
		at := 0
		for at < len(l) && l[at].Day <= x.Day {
			at++
		}
		if added[at] != x || !slices.Equal(slices.Delete(added, at, at+1), l) {
			t.Fatal("Added of", x, "to", l, "is", added)
		}
	}
}
