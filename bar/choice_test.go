package bar

import (
	"math"
	"slices"
	"testing"

	"clinch/api"
)

// 3.3

func TestOffcuts(t *testing.T) {
	for _, c := range []struct {
		what                      string
		s                         api.Stock
		rests, pieces, from, left []int
	}{
		{"the shortest rest", stock(800, 5), ints(500, 300, 400), ints(300), ints(1), ints(500, 0, 400)},
		{"the first of several", stock(800, 5), ints(500, 400, 400), ints(300), ints(1), ints(500, 95, 400)},
		{"in the order of the indexes", stock(800, 0), ints(500, 300), ints(200, 300), ints(1, 0), ints(200, 100)},
		{"one after the other", stock(800, 5), ints(610), ints(300, 300), ints(0, 0), ints(0)},
		{"a cut on the end", stock(800, 5), ints(605), ints(300, 300), ints(0, 0), ints(0)},
		{"a piece too long by one", stock(800, 5), ints(604), ints(300, 300), ints(0, -1), ints(299)},
		{"below 0 is 0", stock(800, 100), ints(350), ints(300), ints(0), ints(0)},
		{"above 0", stock(800, 49), ints(350), ints(300), ints(0), ints(1)},
		{"no rests", stock(800, 5), nil, ints(300, 1), ints(-1, -1), nil},
		{"no pieces", stock(800, 5), ints(300, 0), nil, nil, ints(300, 0)},
		{"rests of 0", stock(800, 5), ints(0, 0), ints(1), ints(-1), ints(0, 0)},
		{"later pieces that fit", stock(800, 0), ints(100), ints(200, 100, 1), ints(-1, 0, -1), ints(0)},
		{"a piece longer than a bar", stock(800, 5), ints(800, 900), ints(850), ints(1), ints(800, 45)},
		{"the greatest numbers", stock(1, 100), slices.Repeat(ints(10000), 64), ints(10000), ints(0), append(ints(0), slices.Repeat(ints(10000), 63)...)},
	} {
		from, left, e := Offcuts(c.s, c.rests, c.pieces)
		wantList(t, c.what+": from", from, e, c.from, api.OK)
		wantList(t, c.what+": left", left, e, c.left, api.OK)
	}
}

func TestOffcutsErrors(t *testing.T) {
	check := func(s api.Stock, rests, pieces []int, want api.Errno) {
		t.Helper()
		from, left, e := Offcuts(s, rests, pieces)
		wantErrno(t, "Offcuts", e, want)
		if len(from) != 0 || len(left) != 0 {
			t.Error("Offcuts with an error:", from, left)
		}
	}
	wrong := [][]int{ints(-1), ints(300, 10001), ints(math.MinInt), ints(math.MaxInt), make([]int, 65), make([]int, 1000000)}
	for _, rests := range append(wrong, nil, ints(300)) {
		for _, s := range badStocks() {
			check(s, rests, ints(300), api.ErrInvalid)
		}
		for _, pieces := range badPieces() {
			check(stock(800, 5), rests, pieces, api.ErrInvalid)
		}
	}
	for _, rests := range wrong {
		check(stock(800, 5), rests, ints(300), api.ErrRange)
		check(stock(800, 5), rests, ints(900), api.ErrRange)
		check(stock(800, 5), rests, nil, api.ErrRange)
	}
	if _, _, e := Offcuts(stock(800, 5), make([]int, 64), ints(300)); e != api.OK {
		t.Error("64 rests are allowed:", e)
	}
}

// P3.5

func TestOffcutsTakeWhatThereIs(t *testing.T) {
	r := sample()
	for range 20000 {
		s := stock(20, r.Intn(4))
		rests, pieces := some(r, r.Intn(6), 0, 20), some(r, r.Intn(8), 1, 12)
		from, left, e := Offcuts(s, rests, pieces)
		if e != api.OK || len(from) != len(pieces) || len(left) != len(rests) {
			t.Fatal("Offcuts", s, rests, pieces, from, left, e)
		}
		now := slices.Clone(rests)
		for i, p := range pieces {
			want := -1
			for j, n := range now {
				if n >= p && (want < 0 || n < now[want]) {
					want = j
				}
			}
			if from[i] != want {
				t.Fatalf("Offcuts(%v, %v, %v): %v, want %d for piece %d", s, rests, pieces, from, want, i)
			}
			if want >= 0 {
				now[want] = max(now[want]-p-s.Kerf, 0)
			}
		}
		wantList(t, "left", left, e, now, api.OK)
		for j, n := range rests {
			var l []int
			for i, p := range pieces {
				if from[i] == j {
					l = append(l, p)
				}
			}
			if !bruteFit(n, s.Kerf, l) || len(l) > 0 && left[j] != max(n-sum(l)-len(l)*s.Kerf, 0) {
				t.Fatalf("Offcuts(%v, %v, %v): %v, %v", s, rests, pieces, from, left)
			}
		}
		for i, p := range pieces {
			if from[i] < 0 && slices.ContainsFunc(left, func(n int) bool { return n >= p }) {
				t.Fatalf("Offcuts(%v, %v, %v): %v, %v", s, rests, pieces, from, left)
			}
		}
	}
}

func TestLongest(t *testing.T) {
	for _, c := range []struct {
		what         string
		s            api.Stock
		pieces, want []int
	}{
		{"the greatest total", stock(800, 0), ints(300, 300, 500), ints(0, 2)},
		{"the first list of several", stock(800, 0), ints(500, 300, 300, 500), ints(0, 1)},
		{"0 2 before 1 2", stock(10, 0), ints(4, 4, 6), ints(0, 2)},
		{"0 3 before 1 2", stock(10, 0), ints(1, 6, 4, 9), ints(0, 3)},
		{"0 1 2 before 0 3", stock(10, 0), ints(2, 4, 4, 8), ints(0, 1, 2)},
		{"0 1 before 0 2 3", stock(10, 0), ints(4, 6, 3, 3), ints(0, 1)},
		{"not less because the list is longer", stock(10, 0), ints(10, 4, 6), ints(0)},
		{"a list from 0 before a shorter one from 1", stock(10, 0), ints(1, 10, 9), ints(0, 2)},
		{"the last cut falls on the end", stock(800, 5), ints(400, 390, 395), ints(0, 2)},
		{"kerfs make it too long", stock(800, 5), ints(400, 396, 390), ints(0, 2)},
		{"kerfs do not count as length", stock(20, 5), ints(5, 5, 15), ints(2)},
		{"a piece as long as the bar", stock(800, 5), ints(300, 800, 300), ints(1)},
		{"longer pieces fit into none", stock(800, 5), ints(900, 801, 5), ints(2)},
		{"no pieces that fit", stock(800, 5), ints(900, 801), nil},
		{"no pieces", stock(800, 5), nil, nil},
		{"all pieces", stock(10000, 0), slices.Repeat(ints(625), 16), ints(0, 1, 2, 3, 4, 5, 6, 7, 8, 9, 10, 11, 12, 13, 14, 15)},
		{"some of the same length", stock(10000, 0), slices.Repeat(ints(2500), 16), ints(0, 1, 2, 3)},
	} {
		l, e := Longest(c.s, c.pieces)
		wantList(t, c.what, l, e, c.want, api.OK)
	}
}

func TestLongestOfAll(t *testing.T) {
	r := sample()
	for range 3000 {
		s, pieces := someCase(r, 9)
		if len(pieces) > 0 && r.Intn(4) == 0 {
			pieces[r.Intn(len(pieces))] = s.Bar + r.Intn(2)
			pieces = slices.DeleteFunc(pieces, func(p int) bool { return p > api.MaxBar })
		}
		var want []int
		most := 0
		for set := range 1 << len(pieces) {
			var at, l []int
			for i, p := range pieces {
				if set>>i&1 == 1 {
					at, l = append(at, i), append(l, p)
				}
			}
			if n := sum(l); bruteFit(s.Bar, s.Kerf, l) && (n > most || n == most && slices.Compare(at, want) < 0) {
				most, want = n, at
			}
		}
		l, e := Longest(s, pieces)
		if e != api.OK || !slices.Equal(l, want) {
			t.Fatalf("Longest(%v, %v) = %v, %d, want %v", s, pieces, l, e, want)
		}
	}
}
