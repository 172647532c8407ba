package nail

import (
	"math"
	"slices"
	"testing"

	"clinch/api"
)

// 4.1

func TestValidSlots(t *testing.T) {
	for _, l := range someLists(sample(), 100) {
		if !ValidSlots(l) {
			t.Error("not valid:", l)
		}
	}
	for _, l := range badLists() {
		if ValidSlots(l) {
			t.Error("valid:", l[:min(len(l), 20)])
		}
	}
}

func TestValidNailing(t *testing.T) {
	for _, n := range []api.Nailing{nailing(0, 0, 1, 0), nailing(0, 16, 16, 1000), nailing(16, 16, 1, 0), nailing(3, 4, 2, 70), nailing(4, 4, 2, 70)} {
		if !ValidNailing(n) {
			t.Error("not valid:", n)
		}
	}
	for _, n := range badNailings() {
		if ValidNailing(n) {
			t.Error("valid:", n)
		}
	}
}

func TestTakesAndWhy(t *testing.T) {
	for _, c := range []struct {
		wall int
		s    api.Slot
		why  []string
	}{
		{70, api.Slot{Wall: 70, Hold: 9}, nil},
		{70, api.Slot{Wall: 71}, nil},
		{70, api.Slot{Wall: 69, Hold: 9}, []string{"thin"}},
		{70, api.Slot{Wall: 70, Behind: true}, []string{"behind"}},
		{70, api.Slot{Wall: 70, Old: true}, []string{"old"}},
		{70, api.Slot{Wall: 70, Quick: true}, []string{"quick"}},
		{70, api.Slot{Wall: 69, Quick: true}, []string{"thin", "quick"}},
		{70, api.Slot{Wall: 80, Behind: true, Old: true}, []string{"behind", "old"}},
		{70, api.Slot{Wall: 0, Behind: true, Old: true, Quick: true}, []string{"thin", "behind", "old", "quick"}},
		{0, api.Slot{}, nil},
		{1000, api.Slot{Wall: 1000, Hold: 1000}, nil},
		{1000, api.Slot{Wall: 999}, []string{"thin"}},
	} {
		n := nailing(2, 2, 2, c.wall)
		why, e := Why(n, c.s)
		wantList(t, "Why", why, e, c.why, api.OK)
		takes, e := Takes(n, c.s)
		wantValue(t, "Takes", takes, e, len(c.why) == 0, api.OK)
	}
}

func TestTakesAndWhyErrors(t *testing.T) {
	check := func(n api.Nailing, s api.Slot) {
		t.Helper()
		why, e := Why(n, s)
		wantList(t, "Why", why, e, nil, api.ErrInvalid)
		takes, e := Takes(n, s)
		wantValue(t, "Takes", takes, e, false, api.ErrInvalid)
	}
	for _, n := range badNailings() {
		check(n, api.Slot{Wall: 70, Hold: 9})
		check(n, api.Slot{Quick: true})
		check(n, badSlots()[0])
	}
	for _, s := range badSlots() {
		check(nailing(0, 2, 1, 0), s)
	}
}

func TestOpen(t *testing.T) {
	n := nailing(2, 2, 2, 70)
	for _, c := range []struct {
		l    []api.Slot
		want []int
	}{
		{holding(5, 9, 5, 4), ints(0, 1, 2, 3)},
		{without(holding(5, 9, 5, 4), 0, 2), ints(1, 3)},
		{without(holding(5, 9, 5, 4), 1, 3), ints(0, 2)},
		{without(holding(5, 9, 5, 4), 0, 1, 2, 3), nil},
		{[]api.Slot{{Wall: 70}, {Wall: 69}}, ints(0)},
		{holding(0), ints(0)}, // one is open even if there is no right choice
		{nil, nil},
	} {
		l, e := Open(n, c.l)
		wantList(t, "Open", l, e, c.want, api.OK)
	}
	for n, l := range wrongs {
		open, e := Open(n, l)
		wantList(t, "Open", open, e, nil, api.ErrInvalid)
	}
}

func TestRightAndHold(t *testing.T) {
	slots := holding(5, 9, 5, 4)
	for _, c := range []struct {
		what   string
		n      api.Nailing
		l      []api.Slot
		choice []int
		right  bool
		hold   int
	}{
		{"two of two", nailing(2, 2, 2, 70), slots, ints(1, 3), true, 13},
		{"a greater gap", nailing(2, 2, 2, 70), slots, ints(0, 3), true, 9},
		{"too little a gap", nailing(2, 2, 2, 70), slots, ints(0, 1), false, 0},
		{"a gap of one", nailing(2, 2, 1, 70), slots, ints(0, 1), true, 14},
		{"too few", nailing(2, 2, 1, 70), slots, ints(1), false, 0},
		{"too many", nailing(2, 2, 1, 70), slots, ints(0, 1, 2), false, 0},
		{"as few as may be", nailing(1, 3, 1, 70), slots, ints(1), true, 9},
		{"as many as may be", nailing(1, 3, 1, 70), slots, ints(0, 1, 2), true, 19},
		{"an index twice", nailing(2, 2, 1, 70), slots, ints(1, 1), false, 0},
		{"not in order", nailing(2, 2, 1, 70), slots, ints(3, 1), false, 0},
		{"not in order behind a gap", nailing(3, 3, 1, 70), slots, ints(0, 3, 2), false, 0},
		{"an index too great", nailing(2, 2, 1, 70), slots, ints(1, 4), false, 0},
		{"an index below 0", nailing(2, 2, 1, 70), slots, ints(-1, 1), false, 0},
		{"the greatest index", nailing(2, 2, 1, 70), slots, ints(0, math.MaxInt), false, 0},
		{"the greatest index first", nailing(2, 2, 1, 70), slots, ints(math.MaxInt, 1), false, 0},
		{"the least index", nailing(2, 2, 1, 70), slots, ints(math.MinInt, 1), false, 0},
		{"none of none", nailing(0, 2, 1, 70), nil, nil, true, 0},
		{"none of some", nailing(0, 2, 1, 70), slots, ints(), true, 0},
		{"none where one must be", nailing(1, 2, 1, 70), slots, nil, false, 0},
		{"one of none", nailing(0, 2, 1, 70), nil, ints(0), false, 0},
		{"a thin wall", nailing(0, 2, 1, 101), slots, ints(1), false, 0},
		{"a wall just as thick", nailing(0, 2, 1, 100), slots, ints(1), true, 9},
		{"thin", nailing(0, 2, 1, 70), without(slots, 0), ints(0, 1), false, 0},
		{"behind", nailing(0, 2, 1, 70), without(slots, 1), ints(0, 1), false, 0},
		{"old", nailing(0, 2, 1, 70), without(slots, 2), ints(0, 2), false, 0},
		{"quick", nailing(0, 2, 1, 70), without(slots, 3), ints(0, 3), false, 0},
		{"others take none", nailing(0, 2, 1, 70), without(slots, 2, 3), ints(0, 1), true, 14},
		{"all of sixteen", nailing(16, 16, 1, 100), holding(slices.Repeat(ints(1000), 16)...), ints(0, 1, 2, 3, 4, 5, 6, 7, 8, 9, 10, 11, 12, 13, 14, 15), true, 16000},
		{"the greatest gap", nailing(1, 16, 16, 0), make([]api.Slot, 16), ints(15), true, 0},
		{"not the greatest gap", nailing(1, 16, 16, 0), make([]api.Slot, 16), ints(0, 15), false, 0},
	} {
		if got := Right(c.n, c.l, c.choice); got != c.right {
			t.Errorf("%s: Right is %t", c.what, got)
		}
		e := api.OK
		if !c.right {
			e = api.ErrInvalid
		}
		hold, got := Hold(c.n, c.l, c.choice)
		wantValue(t, c.what+": Hold", hold, got, c.hold, e)
	}
	for n, l := range wrongs {
		for _, choice := range [][]int{nil, ints(0), ints(0, 1), ints(-1)} {
			if Right(n, l, choice) {
				t.Error("right:", n, l[:min(len(l), 20)], choice)
			}
			hold, e := Hold(n, l, choice)
			wantValue(t, "Hold", hold, e, 0, api.ErrInvalid)
		}
	}
	if Right(nailing(0, 16, 1, 0), slots, make([]int, 1000000)) {
		t.Error("right with a million nails")
	}
}

func TestRightIsAsTheDefinition(t *testing.T) {
	r := sample()
	right := 0
	for range 20000 {
		n, l := someNailing(r), someSlots(r, 5)
		choice := make([]int, r.Intn(4))
		for i := range choice {
			choice[i] = r.Intn(7) - 1
		}
		if r.Intn(4) > 0 {
			slices.Sort(choice)
		}
		want := slices.ContainsFunc(bruteRights(n, l), func(c []int) bool { return slices.Equal(c, choice) })
		if got := Right(n, l, choice); got != want {
			t.Fatalf("Right(%v, %v, %v) = %t", n, l, choice, got)
		}
		if want {
			right++
		}
	}
	if right < 1000 {
		t.Error("too few right choices in this test:", right)
	}
}

// 4.4

func TestUsed(t *testing.T) {
	slots := without(holding(5, 9, 5, 4), 2)
	for _, c := range []struct {
		choice []int
		old    []bool
	}{
		{nil, []bool{false, false, true, false}},
		{ints(0), []bool{true, false, true, false}},
		{ints(1, 3), []bool{false, true, true, true}},
		{ints(2), []bool{false, false, true, false}}, // it need not take a nail
		{ints(0, 1, 2, 3), []bool{true, true, true, true}},
	} {
		want := slices.Clone(slots)
		for i, old := range c.old {
			want[i].Old = old
		}
		l, e := Used(slots, c.choice)
		wantList(t, "Used", l, e, want, api.OK)
	}
	for _, none := range [][]int{nil, {}} {
		l, e := Used(nil, none)
		wantList(t, "Used of nothing", l, e, nil, api.OK)
	}
	kept := []api.Slot{{Wall: 3, Hold: 7, Behind: true, Quick: true}}
	l, e := Used(kept, ints(0))
	wantList(t, "Used", l, e, []api.Slot{{Wall: 3, Hold: 7, Behind: true, Old: true, Quick: true}}, api.OK)
}

func TestUsedErrors(t *testing.T) {
	wrong := [][]int{ints(-1), ints(4), ints(0, 4), ints(1, 1), ints(3, 1), ints(0, 3, 2), ints(math.MinInt), ints(math.MaxInt), ints(0, math.MaxInt), ints(math.MaxInt, 0), make([]int, 1000000)}
	for _, choice := range wrong {
		l, e := Used(holding(5, 9, 5, 4), choice)
		wantList(t, "Used", l, e, nil, api.ErrRange)
	}
	l, e := Used(nil, ints(0))
	wantList(t, "Used of no slots", l, e, nil, api.ErrRange)
	for _, bad := range badLists() {
		for _, choice := range append(wrong, nil, ints(0)) {
			l, e := Used(bad, choice)
			wantList(t, "Used", l, e, nil, api.ErrInvalid)
		}
	}
}

func TestFresh(t *testing.T) {
	all := api.Slot{Wall: 3, Hold: 7, Behind: true, Old: true, Quick: true}
	rest := all
	rest.Old = false
	for _, c := range []struct{ l, want []api.Slot }{
		{[]api.Slot{all, {Wall: 70, Hold: 9}, {Wall: 70, Hold: 9, Old: true}}, []api.Slot{rest, {Wall: 70, Hold: 9}, {Wall: 70, Hold: 9}}},
		{holding(5, 9), holding(5, 9)},
		{nil, nil},
	} {
		l, e := Fresh(c.l)
		wantList(t, "Fresh", l, e, c.want, api.OK)
	}
	for _, bad := range badLists() {
		l, e := Fresh(bad)
		wantList(t, "Fresh", l, e, nil, api.ErrInvalid)
	}
}

func TestFreshOfUsed(t *testing.T) {
	r := sample()
	for range 2000 {
		fresh, _ := Fresh(someSlots(r, 16))
		used := fresh
		for range r.Intn(3) {
			if len(fresh) > 0 {
				used, _ = Used(used, ints(r.Intn(len(fresh))))
			}
		}
		l, e := Fresh(used)
		wantList(t, "Fresh of Used", l, e, fresh, api.OK)
	}
}

// P4.5

func TestUsedSlotsAreNotUsedAgain(t *testing.T) {
	r := sample()
	again := 0
	for range 3000 {
		n, l := someNailing(r), someSlots(r, 8)
		rights := bruteRights(n, l)
		if len(rights) == 0 {
			continue
		}
		old := rights[r.Intn(len(rights))]
		used, _ := Used(l, old)
		choices, e := All(n, used)
		wantErrno(t, "All", e, api.OK)
		for _, c := range choices {
			again++
			if slices.ContainsFunc(c, func(i int) bool { return slices.Contains(old, i) }) {
				t.Fatal("used again:", n, l, old, c)
			}
		}
	}
	if again < 1000 {
		t.Error("too few choices in this test:", again)
	}
}
