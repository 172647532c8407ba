package care

import (
	"slices"
	"testing"

	"clinch/api"
)

// 6.3

func TestChain(t *testing.T) {
	l := given("a 0 0 9 1 1; b 1 0 9 1 1 a; x 1 0 9 1 1; c 2 0 9 1 1 b; y 3 0 9 1 1 x; d 3 0 9 1 1 c")
	for name, want := range map[string]string{"a": "a", "b": "b a", "c": "c b a", "d": "d c b a", "x": "x", "y": "y x"} {
		chain, e := Chain(l, name)
		wantList(t, "Chain of "+name, chain, e, list(want), api.OK)
	}
	for _, name := range append(badNames(), "e", "aa", "z") {
		chain, e := Chain(l, name)
		wantList(t, "Chain of no order", chain, e, nil, api.ErrName)
	}
	chain, e := Chain(nil, "a")
	wantList(t, "Chain without orders", chain, e, nil, api.ErrName)
	for _, l := range badOrders() {
		for _, name := range list("a z") {
			chain, e := Chain(l, name)
			wantList(t, "Chain", chain, e, nil, api.ErrInvalid)
		}
	}
	long := many(100)
	for i := range long[1:] {
		long[1+i].Replaces = long[i].Name
	}
	want := bruteNames(long)
	slices.Reverse(want)
	chain, e = Chain(long, "o99")
	wantList(t, "a long chain", chain, e, want, api.OK)
}

func TestAdded(t *testing.T) {
	for _, c := range []struct {
		what string
		l    []api.Rule
		r    string
		e    api.Errno
	}{
		{"the first one", nil, "a 0 0 1 1 1", api.OK},
		{"a later one", example(), "b 21 0 1 1 1", api.OK},
		{"one of the same day", example(), "b 20 0 1 1 1", api.OK},
		{"one that replaces the last one", example(), "b 20 0 1 1 1 light", api.OK},
		{"one that replaces an earlier one", given("a 0 0 1 1 1; b 0 0 1 1 1; c 0 0 1 1 1"), "d 0 0 1 1 1 a", api.OK},
		{"the hundredth one", many(99), "z 5 0 1 1 1", api.OK},
		{"one too many", many(100), "z 5 0 1 1 1", api.ErrLimit},
		{"too many before its name", many(100), "o5 5 0 1 1 1", api.ErrLimit},
		{"too many before all else", many(100), "o5 4 0 1 1 1 x", api.ErrLimit},
		{"a name that is there", example(), "rest 30 0 1 1 1", api.ErrDuplicate},
		{"its name before its day", example(), "rest 19 0 1 1 1", api.ErrDuplicate},
		{"its name before what it replaces", example(), "light 30 0 1 1 1 x", api.ErrDuplicate},
		{"a name that is there, replacing itself", example(), "light 30 0 1 1 1 light", api.ErrDuplicate},
		{"given before the last one", example(), "b 19 0 1 1 1", api.ErrRange},
		{"its day before what it replaces", example(), "b 19 0 1 1 1 x", api.ErrRange},
		{"its day before what is replaced", example(), "b 19 0 1 1 1 rest", api.ErrRange},
		{"one that replaces none that there is", example(), "b 20 0 1 1 1 x", api.ErrName},
		{"the first one, replacing another", nil, "b 20 0 1 1 1 x", api.ErrName},
		{"one that replaces what is no name", example(), "b 20 0 1 1 1 X-Y", api.ErrName},
		{"one that replaces itself", example(), "b 20 0 1 1 1 b", api.ErrName},
		{"one that replaces a replaced one", example(), "b 20 0 1 1 1 rest", api.ErrState},
	} {
		r := given(c.r)[0]
		var want []api.Rule
		if c.e == api.OK {
			want = append(slices.Clone(c.l), r)
		}
		l, e := Added(c.l, r)
		wantList(t, c.what, l, e, want, c.e)
	}
}

func TestAddedOfWhatIsNotValid(t *testing.T) {
	full := many(100)
	for _, r := range badRules() {
		for _, l := range [][]api.Rule{nil, example(), given("rest 10 0 1 1 1"), full} {
			for _, replaced := range []string{"", "rest", "x"} {
				r.Replaces = replaced
				got, e := Added(l, r)
				wantList(t, "Added of an order that is not valid", got, e, nil, api.ErrInvalid)
			}
		}
	}
	for _, l := range badOrders() {
		got, e := Added(l, given("zz 1000 0 1 1 1")[0])
		wantList(t, "Added to orders that are not valid", got, e, nil, api.ErrInvalid)
		got, e = Added(l, given("a 0 0 1 1 1 x")[0])
		wantList(t, "Added to orders that are not valid", got, e, nil, api.ErrInvalid)
	}
}

// P6.6

func TestAddedAgainstBrute(t *testing.T) {
	r := sample()
	count := map[api.Errno]int{}
	for range 30000 {
		l := someOrders(r, 4)
		x := api.Rule{Name: "new", At: 20, From: 5, To: 25, Feet: 1 + r.Intn(15), Jobs: 1 + r.Intn(15)}
		for range r.Intn(4) {
			change(r, &x)
		}
		want := bruteRefusal(l, x)
		got, e := Added(l, x)
		var longer []api.Rule
		if want == api.OK {
			longer = append(slices.Clone(l), x)
		}
		wantList(t, "Added", got, e, longer, want)
		if !ValidRules(got) {
			t.Error("Added's orders are not valid:", got)
		}
		if t.Failed() {
			t.Fatal("for", l, x)
		}
		count[e]++
	}
	for _, e := range []api.Errno{api.OK, api.ErrInvalid, api.ErrDuplicate, api.ErrRange, api.ErrName, api.ErrState} {
		if count[e] < 200 {
			t.Error("too few of a kind:", count)
		}
	}
}

// bruteRefusal is what Added says of fewer than MaxOrders valid orders and one more.
func bruteRefusal(l []api.Rule, x api.Rule) api.Errno {
	isOld := slices.ContainsFunc(l, func(r api.Rule) bool { return r.Name == x.Name })
	isThere := slices.ContainsFunc(l, func(r api.Rule) bool { return r.Name == x.Replaces })
	isReplaced := slices.ContainsFunc(l, func(r api.Rule) bool { return r.Replaces == x.Replaces })
	switch {
	case !bruteValidAlone(x):
		return api.ErrInvalid
	case isOld:
		return api.ErrDuplicate
	case len(l) > 0 && x.At < l[len(l)-1].At:
		return api.ErrRange
	case x.Replaces != "" && !isThere:
		return api.ErrName
	case x.Replaces != "" && isReplaced:
		return api.ErrState
	}
	return api.OK
}

func TestLifted(t *testing.T) {
	for _, c := range []struct {
		what string
		name string
		day  int
		want string
		e    api.Errno
	}{
		{"shorter", "rest", 40, "rest 10 10 40 15 6; light 20 20 30 1 4 rest", api.OK},
		{"by a day", "rest", 49, "rest 10 10 49 15 6; light 20 20 30 1 4 rest", api.OK},
		{"not longer", "rest", 50, "rest 10 10 50 15 6; light 20 20 30 1 4 rest", api.OK},
		{"not longer at all", "rest", 100000, "rest 10 10 50 15 6; light 20 20 30 1 4 rest", api.OK},
		{"to a single day", "rest", 11, "rest 10 10 11 15 6; light 20 20 30 1 4 rest", api.OK},
		{"the other one", "light", 25, "rest 10 10 50 15 6; light 20 20 25 1 4 rest", api.OK},
		{"to no day", "rest", 10, "", api.ErrState},
		{"to less than no day", "rest", 0, "", api.ErrState},
		{"the other one to no day", "light", 20, "", api.ErrState},
		{"no order", "rests", 40, "", api.ErrName},
		{"no name", "", 40, "", api.ErrName},
		{"no order, to no day", "x", 0, "", api.ErrName},
		{"no day", "rest", -1, "", api.ErrRange},
		{"no day and no order", "x", 100001, "", api.ErrRange},
	} {
		l, e := Lifted(example(), c.name, c.day)
		wantList(t, c.what, l, e, given(c.want), c.e)
	}
	late := given("a 50 10 60 1 1")
	l, e := Lifted(late, "a", 20) // before it was given
	wantList(t, "lifted before it was given", l, e, given("a 50 10 20 1 1"), api.OK)
	for _, n := range noDays {
		l, e := Lifted(example(), "rest", n)
		wantList(t, "Lifted", l, e, nil, api.ErrRange)
	}
	for _, bad := range badOrders() {
		l, e := Lifted(bad, "a", 1000)
		wantList(t, "Lifted", l, e, nil, api.ErrInvalid)
		l, e = Lifted(bad, "nobody", -1)
		wantList(t, "Lifted", l, e, nil, api.ErrInvalid)
	}
	l, e = Lifted(nil, "a", 5)
	wantList(t, "Lifted without orders", l, e, nil, api.ErrName)
}

func TestLiftedOrdersEnd(t *testing.T) {
	r := sample()
	for range 2000 {
		l := someOrders(r, 6)
		if len(l) == 0 {
			continue
		}
		x := l[r.Intn(len(l))]
		day := x.From + 1 + r.Intn(12)
		lifted, e := Lifted(l, x.Name, day)
		if e != api.OK || !ValidRules(lifted) {
			t.Fatal("Lifted of", l, "is", lifted, e)
		}
		for d := range 60 {
			before, _ := InForce(l, d)
			after, _ := InForce(lifted, d)
			want := slices.DeleteFunc(before, func(name string) bool { return name == x.Name && d >= day })
			wantList(t, "InForce of Lifted", after, api.OK, want, api.OK)
		}
	}
}
