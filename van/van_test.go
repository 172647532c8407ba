package van_test

import (
	"fmt"
	"slices"
	"strconv"
	"testing"

	"clinch/api"
	"clinch/hoof"
	"clinch/van"
)

// 10.1

func TestValidConfig(t *testing.T) {
	for _, c := range []api.Config{
		config(),
		with(func(c *api.Config) { c.Day = 0 }),
		with(func(c *api.Config) { c.Day = api.MaxDay }),
		with(func(c *api.Config) { c.Credit = 0 }),
		with(func(c *api.Config) { c.Credit = api.MaxAmount }),
		with(func(c *api.Config) { c.Rates = api.Rates{} }),
		with(func(c *api.Config) { c.Rates = api.Rates{Toe: 1000, Heel: 1000, In: 1000, Out: 1000} }),
		with(func(c *api.Config) { c.Season = api.Season{} }),
		with(func(c *api.Config) { c.Season = api.Season{0: 2000, 11: 2000} }),
		with(func(c *api.Config) { c.Bounds = api.Bounds{Lo: 1, Hi: 11, Least: 1000} }),
		with(func(c *api.Config) {
			c.Bounds = api.Bounds{Lo: 1990, Hi: 2000, Side: api.MaxLength, Least: api.MaxLength}
		}),
		with(func(c *api.Config) { c.Stock = api.Stock{Bar: 1} }),
		with(func(c *api.Config) { c.Stock = api.Stock{Bar: api.MaxBar, Kerf: 100} }),
		with(func(c *api.Config) { c.Prices = [4]int{} }),
		with(func(c *api.Config) { c.Prices = [4]int{100000, 100000, 100000, 100000} }),
	} {
		if !van.ValidConfig(c) {
			t.Error("not valid:", c)
		}
		x, e := van.New(c)
		if e != api.OK || x == nil {
			t.Errorf("New of %v: errno %d", c, e)
		} else if x.Day() != c.Day {
			t.Errorf("New of %v: the day is %d", c, x.Day())
		}
	}
	for _, c := range badConfigs() {
		if van.ValidConfig(c) {
			t.Error("valid:", c)
		}
		if x, e := van.New(c); e != api.ErrInvalid || x != nil {
			t.Errorf("New of %v: %v, errno %d", c, x, e)
		}
	}
}

func TestNewVanIsEmpty(t *testing.T) {
	x := setUp(t, config())
	w, e := x.Windows()
	if x.Day() != 10 || len(x.Horses()) != 0 || len(x.Rests()) != 0 || x.Nails() != 0 || len(x.Entries()) != 0 || len(w) != 0 || e != api.OK || x.Book() != "" {
		t.Error("a new van is", view(x))
	}
	if h, known := x.Hoof("bob"); h != (api.Hoof{}) || known {
		t.Error("a new van has the hoof", h, known)
	}
	if l, known := x.Rules("bob"); len(l) != 0 || known {
		t.Error("a new van has the orders", l, known)
	}
}

func TestNilVan(t *testing.T) {
	var x *van.Van
	for _, line := range []string{"day 10", "buy 1 1", "owed ann", "no form", "", " "} {
		if reply, e := x.Do(line); reply != "" || e != api.ErrState {
			t.Errorf("%q to a nil van: reply %q, errno %d", line, reply, e)
		}
	}
	if x.Day() != 0 || len(x.Horses()) != 0 || len(x.Rests()) != 0 || x.Nails() != 0 || len(x.Entries()) != 0 || x.Book() != "" || x.Copy() != nil {
		t.Error("a nil van is not empty")
	}
	if h, known := x.Hoof("bob"); h != (api.Hoof{}) || known {
		t.Error("a nil van has the hoof", h, known)
	}
	if l, known := x.Rules("bob"); len(l) != 0 || known {
		t.Error("a nil van has the orders", l, known)
	}
	if w, e := x.Windows(); len(w) != 0 || e != api.ErrState {
		t.Error("a nil van has the windows", w, e)
	}
}

// 10.2

func TestWhatAVanHas(t *testing.T) {
	x := played(t, config(), `
		horse zed ann 90000000 72000000 60000000 60000001: horses 1
		horse bob joe 80000000 79000000 50000000 50000002: horses 2
		horse cy_2 ann 70000000 69000000 40000000 40000003: horses 3
		order bob rest 10 50 15 6: orders 1
		buy 3 70: bars 3 nails 70
		pay joe 5: owed -5
		day 12: day 12
		order bob more 0 9 1 8: orders 2
		replace bob light 20 30 1 4 rest: orders 3
		pay ann 7: owed -7
	`)
	wantValue(t, "Day", x.Day(), 12)
	wantList(t, "Horses", x.Horses(), []string{"bob", "cy_2", "zed"})
	wantList(t, "Rests", x.Rests(), ints(800, 800, 800))
	wantValue(t, "Nails", x.Nails(), 70)
	wantList(t, "Entries", x.Entries(), []api.Entry{{Day: 10, Account: "joe", Amount: -5}, {Day: 12, Account: "ann", Amount: -7}})
	h, known := x.Hoof("zed")
	wantValue(t, "Hoof", h, api.Hoof{Toe: 90500000, Heel: 72400000, In: 60300000, Out: 60200001})
	wantValue(t, "Hoof is known", known, true)
	l, known := x.Rules("bob")
	wantList(t, "Rules", l, []api.Rule{
		{Name: "rest", At: 10, From: 10, To: 50, Feet: 15, Jobs: 6},
		{Name: "more", At: 12, From: 0, To: 9, Feet: 1, Jobs: 8},
		{Name: "light", At: 12, From: 20, To: 30, Feet: 1, Jobs: 4, Replaces: "rest"},
	})
	wantValue(t, "Rules are known", known, true)
	l, known = x.Rules("zed")
	if len(l) != 0 || !known {
		t.Error("the orders of a horse without any are", l, known)
	}
	for _, name := range []string{"", "ann", "joe", "bo", "bobb", "Bob", "bob "} {
		h, is := x.Hoof(name)
		l, also := x.Rules(name)
		if is || also || h != (api.Hoof{}) || len(l) != 0 {
			t.Errorf("%q is known: %v, %v", name, h, l)
		}
	}
}

func TestWindows(t *testing.T) {
	slow := with(func(c *api.Config) { c.Rates = api.Rates{Toe: 1} })
	still := with(func(c *api.Config) { c.Rates = api.Rates{} })
	for _, c := range []struct {
		what, script string
		c            api.Config
		want         []api.Window
	}{
		{"no horses", "", config(), nil},
		// The Toe of bob comes to be above Heel / 0.9 on the day 12; that of cy is so already, and zed is too short.
		{"each as it leaves", `
			horse zed ann 900000 900000 900000 900000: horses 1
			horse bob ann 80000000 72001000 60000000 60000000: horses 2
			horse cy ann 80000001 72000000 60000000 60000000: horses 3
			due bob: due 12
			due cy: due 10
			due zed: due 10
		`, with(func(c *api.Config) { c.Rates = api.Rates{Toe: 1}; c.Season[0] = 1000 }), []api.Window{{Lo: 10, Hi: 11}, {Lo: 10, Hi: 10}, {Lo: 10, Hi: 10}}},
		{"leaves on the next day", `
			horse bob ann 80000000 72000000 60000000 60000000: horses 1
			due bob: due 11
		`, slow, []api.Window{{Lo: 10, Hi: 10}}},
		{"leaves on the day after the next", `
			horse bob ann 80000000 72000900 60000000 60000000: horses 1
			due bob: due 12
		`, slow, []api.Window{{Lo: 10, Hi: 11}}},
		{"never leaves", `
			horse bob ann 80000000 72000000 60000000 60000000: horses 1
			due bob: ErrNone
		`, still, []api.Window{{Lo: 10, Hi: 2010}}},
		{"never leaves, near the last day", `
			horse bob ann 80000000 72000000 60000000 60000000: horses 1
			day 98001: day 98001
		`, still, []api.Window{{Lo: 98001, Hi: 100000}}},
		{"never leaves, just far enough", `
			horse bob ann 80000000 72000000 60000000 60000000: horses 1
			day 98000: day 98000
		`, still, []api.Window{{Lo: 98000, Hi: 100000}}},
		{"never leaves, on the last day", `
			horse bob ann 80000000 72000000 60000000 60000000: horses 1
			day 100000: day 100000
		`, still, []api.Window{{Lo: 100000, Hi: 100000}}},
		{"does not keep the bounds on the last day", `
			horse bob ann 80000000 7200000 60000000 60000000: horses 1
			day 100000: day 100000
		`, still, []api.Window{{Lo: 100000, Hi: 100000}}},
		{"from the day on", `
			horse bob ann 80000000 72009000 60000000 60000000: horses 1
			day 17: day 17
			due bob: due 21
		`, slow, []api.Window{{Lo: 17, Hi: 20}}},
	} {
		x := played(t, c.c, c.script)
		w, e := x.Windows()
		wantErrno(t, c.what, e, api.OK)
		wantList(t, c.what, w, c.want)
	}
}

func TestWindowsBeyondMaxLength(t *testing.T) {
	// All walls grow alike, so the hoof keeps the bounds until it is too long.
	c := with(func(c *api.Config) { c.Rates = api.Rates{Toe: 250, Heel: 250, In: 250, Out: 250} })
	for _, script := range []string{`
		horse long ann 499999999 499999999 499999999 499999999: horses 1
	`, `
		horse bob ann 80000000 72000000 60000000 60000000: horses 1
		horse long ann 499999999 499999999 499999999 499999999: horses 2
		horse zed ann 80000000 72000000 60000000 60000000: horses 3
	`} {
		x := played(t, c, script+"due long: ErrLimit")
		w, e := x.Windows()
		wantErrno(t, "Windows", e, api.ErrLimit)
		if len(w) != 0 {
			t.Error("Windows with ErrLimit:", w)
		}
	}
}

func TestBook(t *testing.T) {
	x := played(t, config(), `
		horse bob ann 90000000 72000000 60000000 60000000: horses 1
		consent bob 3 900: consent
		trim bob: taken 10000000
		shoe bob 300 6 0: ErrStock
		owed ann: owed 8000
	`)
	wantValue(t, "Book", x.Book(), "0 1653a5e4636e7b2a horse bob ann 90000000 72000000 60000000 60000000\n"+
		"1 ae4e5a9ad0f6a1dc consent bob 3 900\n"+
		"2 42087c85e14254c2 trim bob\n"+
		"3 1b251f1eec4d1e6a owed ann\n")
}

func TestCopy(t *testing.T) {
	x := played(t, config(), `
		horse bob ann 90000000 72000000 60000000 60000000: horses 1
		consent bob 15 900: consent
		order bob rest 50 60 15 6: orders 1
		buy 2 100: bars 2 nails 100
		trim bob: taken 10000000
	`)
	before := view(x)
	y := x.Copy()
	wantValue(t, "Copy", view(y), before)
	const other = `
		horse zed joe 80000000 72000000 60000000 60000000: horses 2
		consent bob 7 800: consent
		order bob more 50 60 1 1: orders 2
		buy 1 5: bars 3 nails 105
		shoe bob 200 6 1: bars 3 nails 81
		pay ann 1: owed 17199
		day 11: day 11
	`
	play(t, y, other)
	wantValue(t, "a van whose copy went on", view(x), before)
	after := view(y)
	z := x.Copy()
	play(t, x, `
		horse cy joe 70000000 72000000 60000000 60000000: horses 2
		order bob less 50 60 1 1: orders 2
		buy 2 7: bars 4 nails 107
		pay joe 1: owed -1
		day 12: day 12
	`)
	wantValue(t, "a copy whose van went on", view(y), after)
	wantValue(t, "another copy", view(z), before)
	play(t, z, other)
	wantValue(t, "two copies that do the same", view(z), after)
}

// However many lines there are, the next ones of a van and of its copy are apart.
func TestCopiesTakeTurns(t *testing.T) {
	x := setUp(t, config())
	for i := range 40 {
		y, z := x.Copy(), x.Copy()
		wantReply(t, y, "pay ann 5", fmt.Sprint("owed ", -2*i-5))
		wantReply(t, z, "day 11", "day 11")
		wantReply(t, x, "pay ann 2", fmt.Sprint("owed ", -2*i-2))
		doAll(t, y, 2, "buy 1 1")
		doAll(t, z, 2, "owed ann")
		wantValue(t, "a book", x.Book(), bookOf(times(i+1, "pay ann 2")...))
		wantValue(t, "a copy's book", y.Book(), bookOf(append(times(i, "pay ann 2"), "pay ann 5", "buy 1 1", "buy 1 1")...))
		wantValue(t, "another copy's book", z.Book(), bookOf(append(times(i, "pay ann 2"), "day 11", "owed ann", "owed ann")...))
		wantValue(t, "entries", len(x.Entries()), i+1)
		wantValue(t, "the last entry", x.Entries()[i].Amount, -2)
		wantValue(t, "a copy's last entry", y.Entries()[i].Amount, -5)
		wantValue(t, "another copy's entries", len(z.Entries()), i)
	}
}

func TestHorsesWhicheverCameFirst(t *testing.T) {
	names := []string{"zed", "a", "bob", "b", "ann_", "ann", "ann2", "b_b"}
	r := sample()
	for range 20 {
		r.Shuffle(len(names), func(i, j int) { names[i], names[j] = names[j], names[i] })
		x := setUp(t, config())
		for i, name := range names {
			wantReply(t, x, "horse "+name+" ann 80000000 "+strconv.Itoa(72000000+len(name)*1000000)+" 60000000 60000000", "horses "+strconv.Itoa(i+1))
		}
		sorted := slices.Sorted(slices.Values(names))
		wantList(t, "Horses", x.Horses(), sorted)
		w, e := x.Windows()
		wantErrno(t, "Windows", e, api.OK)
		for i, name := range sorted {
			h, _ := x.Hoof(name)
			leaves, _ := hoof.Leaves(h, config().Rates, config().Season, config().Bounds, 10)
			if w[i] != (api.Window{Lo: 10, Hi: max(10, leaves-1)}) {
				t.Errorf("the window of %s is %v, it leaves on %d", name, w[i], leaves)
			}
		}
	}
}
