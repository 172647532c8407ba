package nail

import (
	"slices"
	"testing"

	"clinch/api"
)

// 4.2

func TestWaysAndAll(t *testing.T) {
	slots := holding(5, 9, 5, 4)
	for _, c := range []struct {
		what string
		n    api.Nailing
		l    []api.Slot
		want [][]int
	}{
		{"two of four with a gap", nailing(2, 2, 2, 70), slots, [][]int{{0, 2}, {0, 3}, {1, 3}}},
		{"two of four", nailing(2, 2, 1, 70), slots, [][]int{{0, 1}, {0, 2}, {0, 3}, {1, 2}, {1, 3}, {2, 3}}},
		{"a beginning comes first", nailing(0, 2, 2, 70), slots, [][]int{{}, {0}, {0, 2}, {0, 3}, {1}, {1, 3}, {2}, {3}}},
		{"some take none", nailing(1, 3, 1, 70), without(slots, 1, 3), [][]int{{0}, {0, 2}, {2}}},
		{"only the empty choice", nailing(0, 0, 1, 70), slots, [][]int{{}}},
		{"the empty choice of no slots", nailing(0, 16, 1, 70), nil, [][]int{{}}},
		{"the empty choice where none takes a nail", nailing(0, 4, 1, 101), slots, [][]int{{}}},
		{"no choice of no slots", nailing(1, 16, 1, 70), nil, nil},
		{"too few slots", nailing(5, 6, 1, 70), slots, nil},
		{"too few that take nails", nailing(3, 6, 1, 70), without(slots, 0, 1), nil},
		{"too great a gap", nailing(2, 6, 4, 70), slots, nil},
		{"just the gap", nailing(2, 6, 3, 70), slots, [][]int{{0, 3}}},
	} {
		list, e := All(c.n, c.l)
		if e != api.OK || !slices.EqualFunc(list, c.want, slices.Equal) {
			t.Errorf("%s: All is %v, errno %d", c.what, list, e)
		}
		ways, e := Ways(c.n, c.l)
		wantValue(t, c.what+": Ways", ways, e, len(c.want), api.OK)
	}
}

func TestWaysAndAllErrors(t *testing.T) {
	for n, l := range wrongs {
		list, e := All(n, l)
		wantValue(t, "All", len(list), e, 0, api.ErrInvalid)
		ways, e := Ways(n, l)
		wantValue(t, "Ways", ways, e, 0, api.ErrInvalid)
	}
}

func TestAllHasALimit(t *testing.T) {
	for _, c := range []struct {
		n          api.Nailing
		l          []api.Slot
		ways, list int
		e          api.Errno
	}{
		{nailing(0, 16, 1, 0), make([]api.Slot, 16), 65536, 0, api.ErrLimit},
		{nailing(0, 16, 1, 0), make([]api.Slot, 13), 8192, 8192, api.OK},
		{nailing(0, 16, 1, 0), make([]api.Slot, 14), 16384, 0, api.ErrLimit},
		{nailing(1, 13, 2, 0), make([]api.Slot, 16), 2583, 2583, api.OK},
		{nailing(8, 8, 1, 0), make([]api.Slot, 16), 12870, 0, api.ErrLimit},
		{nailing(8, 9, 1, 0), make([]api.Slot, 15), 11440, 0, api.ErrLimit},
		{nailing(8, 8, 1, 0), make([]api.Slot, 15), 6435, 6435, api.OK},
		{nailing(5, 7, 1, 0), make([]api.Slot, 14), 8437, 8437, api.OK},
		{nailing(0, 6, 1, 0), make([]api.Slot, 15), 9949, 9949, api.OK}, // no nailing has from 9,950 to 11,439
		{nailing(6, 12, 1, 0), make([]api.Slot, 14), 12896, 0, api.ErrLimit},
		{nailing(5, 8, 1, 0), make([]api.Slot, 14), 11440, 0, api.ErrLimit},
	} {
		ways, e := Ways(c.n, c.l)
		wantValue(t, "Ways", ways, e, c.ways, api.OK)
		list, e := All(c.n, c.l)
		wantValue(t, "All", len(list), e, c.list, c.e)
	}
}

// P4.2

func TestBest(t *testing.T) {
	slots := holding(5, 9, 5, 4)
	for _, c := range []struct {
		what string
		n    api.Nailing
		l    []api.Slot
		want []int
	}{
		{"two with a gap", nailing(2, 2, 2, 70), slots, ints(1, 3)},
		{"two without", nailing(2, 2, 1, 70), slots, ints(0, 1)}, // 1 2 holds as much
		{"any", nailing(0, 16, 1, 70), slots, ints(0, 1, 2, 3)},
		{"any with a gap", nailing(0, 16, 2, 70), slots, ints(1, 3)},
		{"one", nailing(1, 1, 1, 70), slots, ints(1)},
		{"the first of several", nailing(1, 1, 1, 70), without(slots, 1), ints(0)},
		{"more hold with fewer nails", nailing(0, 2, 2, 70), holding(1, 9, 1), ints(1)},
		{"three although two hold more", nailing(3, 3, 1, 70), without(holding(1, 9, 1, 9, 1), 2), ints(0, 1, 3)},
		{"no nails before nails that hold nothing", nailing(0, 4, 1, 70), holding(0, 0, 0), nil},
		{"as few as may be that hold nothing", nailing(2, 4, 1, 70), holding(0, 0, 0), ints(0, 1)},
		{"a beginning before more that hold nothing", nailing(0, 4, 1, 70), holding(5, 0, 0), ints(0)},
		{"nails that hold nothing before those that do", nailing(0, 4, 1, 70), holding(0, 0, 5), ints(0, 1, 2)},
		{"0 1 before 0 2", nailing(0, 2, 1, 70), holding(5, 3, 3), ints(0, 1)},
		{"0 2 before 1", nailing(0, 2, 2, 70), holding(4, 9, 5), ints(0, 2)},
		{"0 3 before 1 3", nailing(2, 2, 2, 70), holding(4, 4, 1, 9), ints(0, 3)},
		{"none may be", nailing(0, 0, 1, 70), slots, nil},
		{"no slots", nailing(0, 16, 1, 70), nil, nil},
		{"none takes a nail", nailing(0, 16, 1, 101), slots, nil},
		{"the greatest gap", nailing(1, 16, 16, 100), holding(slices.Repeat(ints(7), 16)...), ints(0)},
		{"all of sixteen", nailing(16, 16, 1, 100), holding(slices.Repeat(ints(1000), 16)...), ints(0, 1, 2, 3, 4, 5, 6, 7, 8, 9, 10, 11, 12, 13, 14, 15)},
	} {
		l, e := Best(c.n, c.l)
		wantList(t, c.what, l, e, c.want, api.OK)
		if !IsBest(c.n, c.l, c.want) {
			t.Error(c.what+": is not the best:", c.want)
		}
	}
}

func TestIsBest(t *testing.T) {
	n, slots := nailing(2, 2, 1, 70), holding(5, 9, 5, 4)
	for _, choice := range [][]int{nil, ints(1), ints(1, 2), ints(1, 0), ints(0, 1, 2), ints(0, 4), ints(-1, 1), make([]int, 1000)} {
		if IsBest(n, slots, choice) {
			t.Error("is the best:", choice)
		}
	}
	for n, l := range wrongs {
		if IsBest(n, l, nil) || IsBest(n, l, ints(0, 1)) {
			t.Error("the best of what is not valid:", n, l[:min(len(l), 20)])
		}
	}
	if IsBest(nailing(1, 2, 1, 70), nil, nil) || IsBest(nailing(2, 2, 4, 70), slots, ints(1)) {
		t.Error("the best where no choice is right")
	}
}

func TestMost(t *testing.T) {
	slots := holding(5, 0, 5, 4, 0, 1, 1)
	for _, c := range []struct {
		what string
		n    api.Nailing
		l    []api.Slot
		want int
	}{
		{"all", nailing(0, 16, 1, 70), slots, 7},
		{"no more than may be", nailing(2, 5, 1, 70), slots, 5},
		{"with a gap", nailing(2, 5, 2, 70), slots, 4},
		{"with a greater gap", nailing(2, 5, 4, 70), slots, 2},
		{"some take none", nailing(0, 16, 2, 70), without(slots, 0, 2, 6), 3},
		{"not just the open ones", nailing(0, 16, 2, 70), without(slots, 0, 1, 4, 6), 2},
		{"none", nailing(0, 0, 2, 70), slots, 0},
		{"none takes a nail", nailing(0, 5, 2, 101), slots, 0},
		{"no slots", nailing(0, 5, 2, 70), nil, 0},
	} {
		most, e := Most(c.n, c.l)
		wantValue(t, c.what, most, e, c.want, api.OK)
	}
}

func TestBestAndMostErrors(t *testing.T) {
	check := func(n api.Nailing, l []api.Slot, want api.Errno) {
		t.Helper()
		best, e := Best(n, l)
		wantList(t, "Best", best, e, nil, want)
		most, e := Most(n, l)
		wantValue(t, "Most", most, e, 0, want)
	}
	for n, l := range wrongs {
		check(n, l, api.ErrInvalid)
	}
	slots := holding(5, 9, 5, 4)
	check(nailing(5, 16, 1, 70), slots, api.ErrNone)
	check(nailing(1, 16, 1, 101), slots, api.ErrNone)
	check(nailing(2, 2, 4, 70), slots, api.ErrNone)
	check(nailing(3, 4, 1, 70), without(slots, 0, 3), api.ErrNone)
	check(nailing(1, 1, 1, 0), nil, api.ErrNone)
	check(nailing(16, 16, 1, 0), make([]api.Slot, 15), api.ErrNone)
	check(nailing(9, 16, 2, 0), make([]api.Slot, 16), api.ErrNone)
}

func TestChoicesAreAsTheDefinition(t *testing.T) {
	r := sample()
	some, none := 0, 0
	for range 4000 {
		n, l := someNailing(r), someSlots(r, 9)
		rights := bruteRights(n, l)
		list, e := All(n, l)
		if e != api.OK || !slices.EqualFunc(list, rights, slices.Equal) {
			t.Fatalf("All(%v, %v) = %v, %d, want %v", n, l, list, e, rights)
		}
		ways, e := Ways(n, l)
		wantValue(t, "Ways", ways, e, len(rights), api.OK)
		want, hold := bruteBest(l, rights)
		best, e := Best(n, l)
		most, f := Most(n, l)
		if len(rights) == 0 {
			none++
			wantList(t, "Best", best, e, nil, api.ErrNone)
			wantValue(t, "Most", most, f, 0, api.ErrNone)
			continue
		}
		some++
		if e != api.OK || !slices.Equal(best, want) {
			t.Fatalf("Best(%v, %v) = %v, %d, want %v", n, l, best, e, want)
		}
		got, e := Hold(n, l, best)
		wantValue(t, "Hold of Best", got, e, hold, api.OK)
		nails := len(slices.MaxFunc(rights, func(a, b []int) int { return len(a) - len(b) }))
		wantValue(t, "Most", most, f, nails, api.OK)
		other := rights[r.Intn(len(rights))]
		if IsBest(n, l, other) != slices.Equal(other, want) {
			t.Fatalf("IsBest(%v, %v, %v) = %t", n, l, other, !slices.Equal(other, want))
		}
	}
	if some < 1000 || none < 500 {
		t.Error("the slots of this test are too much alike:", some, none)
	}
}

func TestBestOfManySlots(t *testing.T) {
	r := sample()
	for range 15 {
		n, l := someNailing(r), slices.Repeat(someSlots(r, 16), 16)
		l = l[:min(len(l), 16)]
		want, _ := bruteBest(l, bruteRights(n, l))
		best, e := Best(n, l)
		if e == api.OK && !slices.Equal(best, want) || e != api.OK && want != nil {
			t.Fatalf("Best(%v, %v) = %v, %d, want %v", n, l, best, e, want)
		}
	}
}

// P4.4

// bestHold is the hold of the best choice, -1 if there is none.
func bestHold(t *testing.T, n api.Nailing, l []api.Slot) int {
	t.Helper()
	best, e := Best(n, l)
	if e == api.ErrNone {
		return -1
	}
	hold, f := Hold(n, l, best)
	if e != api.OK || f != api.OK {
		t.Fatal("Best or Hold of it:", n, l, best, e, f)
	}
	return hold
}

func TestLessIsLess(t *testing.T) {
	r := sample()
	less := 0
	for range 5000 {
		n, l := someNailing(r), someSlots(r, 15)
		hold := bestHold(t, n, l)
		longer := append(slices.Clone(l), api.Slot{Wall: r.Intn(1001), Hold: r.Intn(1001), Quick: true})
		if got := bestHold(t, n, longer); got != hold {
			t.Fatal("a slot more that takes none:", n, l, hold, got)
		}
		for _, m := range []api.Nailing{
			nailing(n.Least, n.Most, n.Gap+1, n.Wall),
			nailing(n.Least, n.Most, n.Gap, n.Wall+1+r.Intn(20)),
			nailing(n.Least+1, n.Most, n.Gap, n.Wall),
			nailing(n.Least, n.Most-1, n.Gap, n.Wall),
		} {
			if !ValidNailing(m) {
				continue
			}
			got := bestHold(t, m, l)
			if got > hold {
				t.Fatal("more hold with less:", n, m, l, hold, got)
			}
			if got < hold {
				less++
			}
		}
	}
	if less < 1000 {
		t.Error("too little changed in this test:", less)
	}
}

// 4.4 and P4.5

func TestLoss(t *testing.T) {
	slots := holding(5, 9, 5, 4)
	for _, c := range []struct {
		what string
		n    api.Nailing
		l    []api.Slot
		want []int
	}{
		{"two with a gap", nailing(2, 2, 2, 70), slots, ints(0, 3, 0, 3)},
		{"two without", nailing(2, 2, 1, 70), slots, ints(0, 4, 0, 0)}, // 1 2 and 0 1 hold the same
		{"all", nailing(0, 4, 1, 70), slots, ints(5, 9, 5, 4)},
		{"slots that take none", nailing(0, 4, 1, 70), without(slots, 0, 1, 2, 3), ints(0, 0, 0, 0)},
		{"some that take none", nailing(0, 4, 1, 70), without(slots, 1), ints(5, 0, 5, 4)},
		{"one", nailing(1, 1, 1, 70), slots, ints(0, 4, 0, 0)},
	} {
		for i, want := range c.want {
			loss, e := Loss(c.n, c.l, i)
			wantValue(t, c.what, loss, e, want, api.OK)
		}
	}
}

func TestLossErrors(t *testing.T) {
	check := func(n api.Nailing, l []api.Slot, i int, want api.Errno) {
		t.Helper()
		loss, e := Loss(n, l, i)
		wantValue(t, "Loss", loss, e, 0, want)
	}
	for n, l := range wrongs {
		for _, i := range append(extremes, 0) {
			check(n, l, i, api.ErrInvalid)
		}
	}
	slots := holding(5, 9, 5, 4)
	for _, n := range []api.Nailing{nailing(0, 4, 1, 70), nailing(5, 5, 1, 70)} {
		for _, i := range extremes {
			if i < 0 || i > 3 {
				check(n, slots, i, api.ErrRange)
			}
			check(n, nil, i, api.ErrRange)
		}
	}
	for i := range slots {
		check(nailing(5, 5, 1, 70), slots, i, api.ErrNone)
		check(nailing(4, 4, 1, 70), slots, i, api.ErrState)
		check(nailing(1, 4, 1, 101), slots, i, api.ErrNone)
	}
	// Without the slots that take none there is as much as with them, the others are needed.
	some := without(slots, 1)
	for i, want := range []api.Errno{api.ErrState, api.OK, api.ErrState, api.ErrState} {
		check(nailing(3, 3, 1, 70), some, i, want)
	}
	for i := range slots {
		check(nailing(4, 4, 1, 70), some, i, api.ErrNone)
	}
}

func TestLossIsAsTheDefinition(t *testing.T) {
	r := sample()
	var counts [api.ErrState + 1]int
	for range 4000 {
		n, l := someNailing(r), someSlots(r, 7)
		best, hold := bruteBest(l, bruteRights(n, l))
		for i := range l {
			_, other := bruteBest(l, slices.DeleteFunc(bruteRights(n, l), func(c []int) bool { return slices.Contains(c, i) }))
			want, wantE := 0, api.OK
			switch {
			case hold < 0:
				wantE = api.ErrNone
			case other < 0:
				wantE = api.ErrState
			default:
				want = hold - other
			}
			loss, e := Loss(n, l, i)
			if loss != want || e != wantE || loss < 0 {
				t.Fatalf("Loss(%v, %v, %d) = %d, %d, want %d, %d", n, l, i, loss, e, want, wantE)
			}
			if hold >= 0 && !slices.Contains(best, i) && (loss != 0 || e != api.OK) {
				t.Fatalf("Loss(%v, %v, %d) = %d, %d: it is not in the best choice", n, l, i, loss, e)
			}
			counts[e]++
		}
	}
	if counts[api.OK] < 500 || counts[api.ErrNone] < 500 || counts[api.ErrState] < 500 {
		t.Error("the slots of this test are too much alike:", counts)
	}
}
