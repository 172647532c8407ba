package gait

import (
	"math"
	"slices"
	"testing"

	"clinch/api"
)

// 5.4

func TestGood(t *testing.T) {
	p := pain{4, ints(1, 3, 7)}
	for _, c := range []struct {
		what  string
		p     pain
		given []int
		k     int
		want  bool
	}{
		{"one by one", p, ints(0, 1, 2), 1, true},
		{"two at once", p, ints(1, 2), 1, false},
		{"two at once for two", p, ints(1, 2), 2, true},
		{"two are left", p, ints(1), 2, true},
		{"three are left", p, ints(0), 2, false},
		{"two are left for one", p, ints(0, 1), 1, false},
		{"too many at first", p, ints(2), 2, false},
		{"too many later", pain{4, ints(1, 14)}, ints(0, 1), 2, false},
		{"too many later, just so for three", pain{4, ints(1, 14)}, ints(0, 1), 3, true},
		{"one that numbs nothing new", p, ints(1, 0), 2, false},
		{"one that numbs nothing new at last", p, ints(0, 1, 2), 12, true},
		{"one that numbs nothing new at last but one", p, ints(0, 2, 1), 12, false},
		{"an equal one", pain{2, ints(1, 1)}, ints(0, 1), 1, false},
		{"no block for all", p, nil, 4, true},
		{"no block for less than all", p, nil, 3, false},
		{"no block of an only region", pain{1, nil}, nil, 1, true},
		{"k above the number of regions", pain{2, ints(3)}, ints(0), 12, true},
		{"nothing is left", pain{2, ints(1, 2)}, ints(1, 0), 1, true},
	} {
		good, e := Good(c.p.regions, c.p.blocks, c.given, c.k)
		wantValue(t, c.what, good, e, c.want, api.OK)
	}
}

func TestShortest(t *testing.T) {
	p := pain{4, ints(1, 3, 7)}
	line := ints(1, 3, 7, 15, 31, 63, 127, 255, 511, 1023, 2047, 4095)
	for _, c := range []struct {
		what string
		p    pain
		k    int
		want []int
		e    api.Errno
	}{
		{"one by one", p, 1, ints(0, 1, 2), api.OK},
		{"two by two", p, 2, ints(1), api.OK},
		{"three at once, or one", p, 3, ints(0), api.OK},
		{"all may be left", p, 4, nil, api.OK},
		{"k above the number of regions", p, 12, nil, api.OK},
		{"an only region", pain{1, nil}, 1, nil, api.OK},
		{"an only region and a block", pain{1, ints(1)}, 1, nil, api.OK},
		{"no blocks", pain{2, nil}, 1, nil, api.ErrNone},
		{"all at once", pain{2, ints(3)}, 1, nil, api.ErrNone},
		{"a region that no block tells apart", pain{3, ints(1, 7)}, 1, nil, api.ErrNone},
		{"two left", pain{3, ints(1)}, 1, nil, api.ErrNone},
		{"the first of equal blocks", pain{2, ints(3, 2, 2)}, 1, ints(1), api.OK},
		{"the first of the shortest", pain{3, ints(4, 2, 1)}, 1, ints(0, 1), api.OK},
		{"a later block first", pain{3, ints(3, 1)}, 1, ints(1, 0), api.OK},
		{"a shorter one that comes later", pain{4, ints(1, 2, 12, 3)}, 2, ints(2), api.OK},
		{"a longer one than the first blocks suggest", pain{6, ints(1, 6, 24, 3, 12)}, 2, ints(1, 2), api.OK},
		{"a block may overlap one before it", pain{4, ints(6, 3, 8)}, 2, ints(0), api.OK},
		{"each block with many to go on", pain{6, ints(1, 2, 4, 8, 16, 32)}, 1, ints(0, 1, 2, 3, 4), api.OK},
		{"each block with as many as may be to go on", pain{12, ints(2048, 1024, 512, 256, 128, 64, 32, 16, 8, 4, 2, 1)}, 1, ints(0, 1, 2, 3, 4, 5, 6, 7, 8, 9, 10), api.OK},
		{"twelve regions", pain{12, line}, 1, ints(0, 1, 2, 3, 4, 5, 6, 7, 8, 9, 10), api.OK},
		{"twelve regions, three by three", pain{12, line}, 3, ints(2, 5, 8), api.OK},
		{"twelve regions, five by five", pain{12, line}, 5, ints(1, 6), api.OK},
		{"from the other side", pain{12, reversed(line)}, 5, ints(7, 2), api.OK},
	} {
		way, e := Shortest(c.p.regions, c.p.blocks, c.k)
		wantList(t, c.what, way, e, c.want, c.e)
	}
}

func reversed(l []int) []int {
	l = slices.Clone(l)
	slices.Reverse(l)
	return l
}

func TestLeast(t *testing.T) {
	for _, c := range []struct {
		p    pain
		want int
	}{
		{pain{4, ints(1, 3, 7)}, 1},
		{pain{4, ints(3, 7)}, 2},
		{pain{4, ints(7)}, 3},
		{pain{4, ints(15)}, 4},
		{pain{4, nil}, 4},
		{pain{1, nil}, 1},
		{pain{1, ints(1)}, 1},
		{pain{12, ints(4095)}, 12},
		{pain{12, nil}, 12},
		{pain{12, ints(63)}, 6},
		{pain{12, ints(1)}, 11},
		{pain{3, ints(1, 7)}, 2},
		{pain{4, ints(15, 1, 2, 4)}, 1},
	} {
		k, e := Least(c.p.regions, c.p.blocks)
		wantValue(t, "Least", k, e, c.want, api.OK)
	}
}

func TestSequenceErrors(t *testing.T) {
	check := func(p pain, given []int, k int, want, wantOfShortest api.Errno) {
		t.Helper()
		good, e := Good(p.regions, p.blocks, given, k)
		wantValue(t, "Good", good, e, false, want)
		if wantOfShortest != api.OK {
			way, e := Shortest(p.regions, p.blocks, k)
			wantList(t, "Shortest", way, e, nil, wantOfShortest)
		}
	}
	for _, p := range badPains() {
		check(p, nil, 1, api.ErrInvalid, api.ErrInvalid)
		check(p, ints(20, 20), 0, api.ErrInvalid, api.ErrInvalid)
		k, e := Least(p.regions, p.blocks)
		wantValue(t, "Least", k, e, 0, api.ErrInvalid)
	}
	p := pain{4, ints(1, 3, 7)}
	for _, k := range ints(0, -1, 13, math.MinInt, math.MaxInt) {
		check(p, nil, k, api.ErrRange, api.ErrRange)
		check(pain{1, nil}, nil, k, api.ErrRange, api.ErrRange)
		for _, c := range badGiven {
			check(p, c.given, k, api.ErrRange, api.ErrRange)
		}
	}
	for _, c := range badGiven {
		check(p, c.given, 1, c.want, api.OK)
		check(p, c.given, 12, c.want, api.OK)
	}
	check(p, ints(2, 0, 0), 1, api.ErrDuplicate, api.OK) // also behind a block that makes the sequence not good
}

// P5.4

func TestShortestAgainstBrute(t *testing.T) {
	r := sample()
	lengths := map[int]int{}
	for range 3000 {
		p := somePain(r, 7, 5)
		k := 1 + r.Intn(4)
		want, ok := bruteShortest(p, k)
		wantE := api.ErrNone
		if ok {
			wantE = api.OK
		}
		way, e := Shortest(p.regions, p.blocks, k)
		wantList(t, "Shortest", way, e, want, wantE)
		if e == api.OK {
			lengths[len(way)]++
			good, e := Good(p.regions, p.blocks, way, k)
			wantValue(t, "Good of Shortest", good, e, true, api.OK)
		}
	}
	for length := range 5 {
		if lengths[length] < 5 {
			t.Error("too few sequences of the length", length, lengths)
		}
	}
}

func TestGoodAgainstBrute(t *testing.T) {
	r := sample()
	count := 0
	for range 10000 {
		p := somePain(r, 6, 6)
		given := someGiven(r, min(len(p.blocks), 3))
		k := 1 + r.Intn(4)
		good, e := Good(p.regions, p.blocks, given, k)
		wantValue(t, "Good", good, e, bruteGood(p, given, k), api.OK)
		if good && len(given) > 0 {
			count++
			for k < 12 {
				k++
				good, e := Good(p.regions, p.blocks, given, k)
				wantValue(t, "Good for more", good, e, true, api.OK)
			}
		}
	}
	if count < 500 {
		t.Error("too few sequences were good:", count)
	}
}

func TestLeastHasOneAndLessHasNone(t *testing.T) {
	r := sample()
	for range 300 {
		p := somePain(r, 12, 16)
		least, e := Least(p.regions, p.blocks)
		if e != api.OK || least < 1 || least > p.regions {
			t.Fatal("Least of", p, "is", least, "errno", e)
		}
		for k := 1; k <= 12; k++ {
			want := api.OK
			if k < least {
				want = api.ErrNone
			}
			_, e := Shortest(p.regions, p.blocks, k)
			wantErrno(t, "Shortest", e, want)
		}
	}
}
