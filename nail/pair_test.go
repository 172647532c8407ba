package nail

import (
	"slices"
	"testing"

	"clinch/api"
)

// 4.3 and P4.3

func TestPair(t *testing.T) {
	slots := holding(5, 9, 5, 4)
	few := without(holding(7, 8, 7, 2), 0, 2, 3)
	for _, c := range []struct {
		what string
		n    api.Nailing
		a, b []api.Slot
		even int
		x, y []int
	}{
		{"two equal branches", nailing(2, 2, 2, 70), slots, slots, 0, ints(1, 3), ints(1, 3)},
		{"as many on both sides", nailing(0, 4, 1, 70), slots, few, 0, ints(1), ints(1)},
		{"one more", nailing(0, 4, 1, 70), slots, few, 1, ints(0, 1), ints(1)},
		{"one more on the other side", nailing(0, 4, 1, 70), few, slots, 1, ints(1), ints(0, 1)},
		{"two more", nailing(0, 4, 1, 70), slots, few, 2, ints(0, 1, 2), ints(1)},
		{"three more", nailing(0, 4, 1, 70), slots, few, 3, ints(0, 1, 2, 3), ints(1)},
		{"any", nailing(0, 4, 1, 70), slots, few, 16, ints(0, 1, 2, 3), ints(1)},
		{"no more than may be", nailing(0, 2, 1, 70), slots, few, 16, ints(0, 1), ints(1)},
		{"one side without nails", nailing(0, 4, 1, 70), slots, nil, 0, nil, nil},
		{"one side without nails, the other with one", nailing(0, 4, 1, 70), slots, nil, 1, ints(1), nil},
		{"the first side without nails", nailing(0, 4, 1, 70), nil, slots, 2, nil, ints(0, 1)},
		{"no slots", nailing(0, 4, 1, 70), nil, nil, 0, nil, nil},
		{"nails that hold nothing only for the other side", nailing(0, 4, 1, 70), holding(0, 0), holding(5, 6), 0, ints(0, 1), ints(0, 1)},
		{"and not more of them", nailing(0, 4, 1, 70), holding(0, 0), holding(5, 6), 1, ints(0), ints(0, 1)},
		{"none of them", nailing(0, 4, 1, 70), holding(0, 0), holding(5, 6), 2, nil, ints(0, 1)},
		{"no nails that hold nothing", nailing(1, 2, 1, 70), holding(5, 0), holding(5, 0), 0, ints(0), ints(0)},
		{"two nails because the other side needs them", nailing(1, 2, 1, 70), holding(5, 0), holding(5, 1), 0, ints(0, 1), ints(0, 1)},
		{"less on one side for more on both", nailing(0, 3, 2, 70), holding(4, 9, 4), holding(3, 1, 3), 0, ints(0, 2), ints(0, 2)},
		{"no need for that", nailing(0, 3, 2, 70), holding(4, 9, 4), holding(3, 1, 3), 1, ints(1), ints(0, 2)},
		{"two and two before one and one with the same hold", nailing(0, 3, 2, 70), holding(4, 9, 4), holding(3, 5, 3), 0, ints(0, 2), ints(0, 2)},
		{"of several second choices the first", nailing(0, 3, 2, 70), holding(4, 9, 4), holding(3, 6, 3), 1, ints(1), ints(0, 2)},
		{"all", nailing(16, 16, 1, 100), holding(slices.Repeat(ints(1000), 16)...), holding(slices.Repeat(ints(1000), 16)...), 0, ints(0, 1, 2, 3, 4, 5, 6, 7, 8, 9, 10, 11, 12, 13, 14, 15), ints(0, 1, 2, 3, 4, 5, 6, 7, 8, 9, 10, 11, 12, 13, 14, 15)},
	} {
		x, y, e := Pair(c.n, c.a, c.b, c.even)
		wantList(t, c.what+": the first choice", x, e, c.x, api.OK)
		wantList(t, c.what+": the second choice", y, e, c.y, api.OK)
		if !IsPair(c.n, c.a, c.b, c.even, c.x, c.y) {
			t.Error(c.what+": is not the best pair:", c.x, c.y)
		}
	}
}

func TestPairErrors(t *testing.T) {
	check := func(n api.Nailing, a, b []api.Slot, even int, want api.Errno) {
		t.Helper()
		x, y, e := Pair(n, a, b, even)
		wantList(t, "Pair", x, e, nil, want)
		wantList(t, "Pair", y, e, nil, want)
		if IsPair(n, a, b, even, nil, nil) {
			t.Error("a best pair where there is none:", n, even)
		}
	}
	slots := holding(5, 9, 5, 4)
	for n, l := range wrongs {
		for _, even := range []int{0, 16, 17, -1} {
			check(n, l, slots, even, api.ErrInvalid)
			check(n, slots, l, even, api.ErrInvalid)
			check(n, l, l, even, api.ErrInvalid)
		}
	}
	for _, even := range extremes {
		if even < 0 || even > 16 {
			check(nailing(0, 2, 1, 70), slots, slots, even, api.ErrRange)
			check(nailing(5, 5, 1, 70), slots, slots, even, api.ErrRange)
		}
	}
	check(nailing(5, 5, 1, 70), slots, slots, 0, api.ErrNone)
	check(nailing(4, 4, 1, 70), slots, slots[1:], 16, api.ErrNone)
	check(nailing(4, 4, 1, 70), slots[1:], slots, 16, api.ErrNone)
	check(nailing(1, 4, 1, 70), slots, nil, 16, api.ErrNone)
	check(nailing(1, 4, 1, 70), nil, nil, 0, api.ErrNone)
}

func TestIsPair(t *testing.T) {
	n, slots := nailing(1, 2, 1, 70), holding(5, 9, 5, 4)
	for _, c := range []struct {
		x, y []int
		want bool
	}{
		{ints(0, 1), ints(0, 1), true},
		{ints(0, 1), ints(1, 2), false}, // holds as much, but comes later
		{ints(1, 2), ints(0, 1), false},
		{ints(0, 1), ints(1), false},
		{ints(1), ints(1), false},
		{ints(0, 1), nil, false},
		{nil, ints(0, 1), false},
		{ints(1, 0), ints(0, 1), false},
		{ints(0, 1), ints(-1, 99), false},
		{make([]int, 1000), make([]int, 1000), false},
	} {
		if got := IsPair(n, slots, slots, 0, c.x, c.y); got != c.want {
			t.Errorf("IsPair of %v and %v is %t", c.x[:min(len(c.x), 9)], c.y[:min(len(c.y), 9)], got)
		}
	}
	if IsPair(n, slots, slots, -1, ints(0, 1), ints(0, 1)) || IsPair(n, slots, slots, 17, ints(0, 1), ints(0, 1)) {
		t.Error("a best pair of a wrong number")
	}
	if !IsPair(n, slots, slots, 16, ints(0, 1), ints(0, 1)) {
		t.Error("no best pair of the greatest number")
	}
}

func TestPairIsAsTheDefinition(t *testing.T) {
	r := sample()
	some, none, uneven := 0, 0, 0
	for range 4000 {
		n, a, b, even := someNailing(r), someSlots(r, 6), someSlots(r, 6), r.Intn(3)
		first, second := bruteRights(n, a), bruteRights(n, b)
		wantX, wantY, hold := brutePair(a, b, first, second, even)
		x, y, e := Pair(n, a, b, even)
		if hold < 0 {
			none++
			wantErrno(t, "Pair", e, api.ErrNone)
			continue
		}
		some++
		if e != api.OK || !slices.Equal(x, wantX) || !slices.Equal(y, wantY) {
			t.Fatalf("Pair(%v, %v, %v, %d) = %v, %v, %d, want %v, %v", n, a, b, even, x, y, e, wantX, wantY)
		}
		if !Right(n, a, x) || !Right(n, b, y) {
			t.Fatalf("Pair(%v, %v, %v, %d) = %v, %v: not right", n, a, b, even, x, y)
		}
		bestX, _ := bruteBest(a, first)
		bestY, _ := bruteBest(b, second)
		if !slices.Equal(x, bestX) || !slices.Equal(y, bestY) {
			uneven++
		}
		x, y, e = Pair(n, a, b, api.MaxSlots)
		wantList(t, "Pair of any lengths", x, e, bestX, api.OK)
		wantList(t, "Pair of any lengths", y, e, bestY, api.OK)
	}
	if some < 1000 || none < 500 || uneven < 200 {
		t.Error("the branches of this test are too much alike:", some, none, uneven)
	}
}
