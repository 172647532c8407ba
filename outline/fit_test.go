package outline

import (
	"math"
	"slices"
	"testing"

	"clinch/api"
)

var (
	// shoe is 20 wide and long, around unit shifted to its middle.
	shoe  = points(-5, -5, 15, -5, 15, 15, -5, 15)
	loose = api.Fit{Line: 0, Front: 10000, Back: 10000}
)

// 2.4

func TestValidFit(t *testing.T) {
	for _, f := range []api.Fit{{}, {Line: 10000, Front: 10000, Back: 10000}, {Line: -10000}, {Line: 5, Front: 0, Back: 7}} {
		if !ValidFit(f) {
			t.Error("not valid:", f)
		}
	}
	for _, f := range badFits() {
		if ValidFit(f) {
			t.Error("valid:", f)
		}
	}
}

func badFits() []api.Fit {
	l := []api.Fit{{Line: -10001}, {Front: -1}, {Back: -1}}
	for _, n := range []int{10001, math.MinInt, math.MaxInt} {
		l = append(l, api.Fit{Line: n}, api.Fit{Front: n}, api.Fit{Back: n})
	}
	return l
}

func TestMisfits(t *testing.T) {
	for _, c := range []struct {
		shoe, hoof []api.Point
		f          api.Fit
		want       []api.Misfit
	}{
		{shoe, unit, api.Fit{Line: 5, Front: 5, Back: 5}, nil},
		{shoe, unit, api.Fit{Line: 5, Front: 4, Back: 5}, []api.Misfit{{Corner: 2, Kind: "wide"}, {Corner: 3, Kind: "wide"}}},
		{shoe, unit, api.Fit{Line: 5, Front: 5, Back: 4}, []api.Misfit{{Corner: 0, Kind: "wide"}, {Corner: 1, Kind: "wide"}}},
		{shoe, unit, api.Fit{Line: 10, Front: 5, Back: 0}, []api.Misfit{{Corner: 0, Kind: "wide"}, {Corner: 1, Kind: "wide"}}},
		{shoe, unit, api.Fit{Line: 11, Front: 0, Back: 5}, nil}, // all corners are behind the line
		{shoe, unit, api.Fit{Line: 0, Front: 5, Back: 0}, nil},  // a corner on the line is before it
		{shoe, unit, api.Fit{Line: 1, Front: 5, Back: 0}, []api.Misfit{{Corner: 0, Kind: "wide"}, {Corner: 1, Kind: "wide"}}},
		{unit, unit, api.Fit{}, nil}, // corners on the outline
		{unit, points(0, 5, 5, 0, 10, 5, 5, 10), api.Fit{}, nil},
		{unit, shoe, loose, []api.Misfit{{Corner: 0, Kind: "outside"}, {Corner: 1, Kind: "outside"}, {Corner: 2, Kind: "outside"}, {Corner: 3, Kind: "outside"}}},
		{unit, points(5, 5, 11, 5, 5, 8), api.Fit{Line: 0, Front: 2, Back: 0}, []api.Misfit{{Corner: 0, Kind: "wide"}, {Corner: 1, Kind: "outside"}}},
		{unit, points(5, 5, 11, 5, 5, 8), api.Fit{}, []api.Misfit{{Corner: 0, Kind: "wide"}, {Corner: 1, Kind: "outside"}, {Corner: 2, Kind: "wide"}}},
		{dented, points(1, 1, 5, 1, 1, 2), loose, nil},
		{dented, points(1, 1, 5, 1, 3, 2), loose, []api.Misfit{{Corner: 2, Kind: "outside"}}},
		{triangle, points(1, 1, 2, 1, 1, 2), api.Fit{Line: 2, Front: 0, Back: 0}, []api.Misfit{{Corner: 0, Kind: "wide"}, {Corner: 1, Kind: "wide"}, {Corner: 2, Kind: "wide"}}},
		{triangle, points(1, 1, 2, 1, 1, 2), api.Fit{Line: 2, Front: 1, Back: 0}, []api.Misfit{{Corner: 0, Kind: "wide"}, {Corner: 1, Kind: "wide"}}}, // distances 1, 2 / 5, 1 / 5
		{whole, points(0, 0, 1, 0, 0, 1), api.Fit{Line: 0, Front: 9999, Back: 0}, []api.Misfit{{Corner: 0, Kind: "wide"}}},
		{whole, points(0, 0, 1, 0, 0, 1), api.Fit{Line: 0, Front: 10000, Back: 0}, nil},
	} {
		got, e := Misfits(c.shoe, c.hoof, c.f)
		wantErrno(t, "Misfits", e, api.OK)
		if !slices.Equal(got, c.want) {
			t.Error("Misfits", c.shoe, c.hoof, c.f, "are", got, "and not", c.want)
		}
		if ok, e := Fits(c.shoe, c.hoof, c.f); ok != (len(c.want) == 0) || e != api.OK {
			t.Error("Fits", c.shoe, c.hoof, c.f, "is", ok, e)
		}
	}
}

func TestTightest(t *testing.T) {
	for _, c := range []struct {
		shoe, hoof []api.Point
		line       int
		want       api.Fit
		e          api.Errno
	}{
		{shoe, unit, 5, api.Fit{Line: 5, Front: 5, Back: 5}, api.OK},
		{shoe, unit, 0, api.Fit{Line: 0, Front: 5, Back: 0}, api.OK},
		{shoe, unit, 11, api.Fit{Line: 11, Front: 0, Back: 5}, api.OK},
		{unit, unit, 5, api.Fit{Line: 5}, api.OK},
		{shoe, points(-1, 0, 9, 0, 13, 12), 5, api.Fit{Line: 5, Front: 2, Back: 5}, api.OK},
		{triangle, points(1, 1, 2, 1, 1, 2), 2, api.Fit{Line: 2, Front: 1, Back: 1}, api.OK},
		{points(0, 0, 20, 10, 10, 20), points(8, 7, 9, 8, 8, 9), -10000, api.Fit{Line: -10000, Front: 4, Back: 0}, api.OK},
		{whole, points(0, 0, 1, 0, 0, 1), 10000, api.Fit{Line: 10000, Back: 10000}, api.OK},
		{whole, points(0, 0, 1, 0, 0, 1), -10000, api.Fit{Line: -10000, Front: 10000}, api.OK},
		{unit, shoe, 0, api.Fit{}, api.ErrNone},
		{unit, points(5, 5, 6, 5, 11, 11), 0, api.Fit{}, api.ErrNone},
		{unit, shoe, 10001, api.Fit{}, api.ErrRange},
		{unit, shoe, -10001, api.Fit{}, api.ErrRange},
		{shoe, unit, math.MinInt, api.Fit{}, api.ErrRange},
		{shoe, unit, math.MaxInt, api.Fit{}, api.ErrRange},
	} {
		got, e := Tightest(c.shoe, c.hoof, c.line)
		wantErrno(t, "Tightest", e, c.e)
		if got != c.want {
			t.Error("Tightest", c.shoe, c.hoof, c.line, "is", got, "and not", c.want)
		}
	}
}

func TestFitErrors(t *testing.T) {
	for name, l := range invalid() {
		for _, c := range [][2][]api.Point{{l, unit}, {shoe, l}, {l, l}} {
			for _, f := range []api.Fit{loose, {Front: -1}} {
				ok, e := Fits(c[0], c[1], f)
				wantZero(t, name, !ok, e)
				m, e := Misfits(c[0], c[1], f)
				wantZero(t, name, len(m) == 0, e)
			}
			for _, line := range []int{0, 10001} {
				f, e := Tightest(c[0], c[1], line)
				wantZero(t, name, f == api.Fit{}, e)
			}
		}
	}
	for _, f := range badFits() {
		ok, e := Fits(shoe, unit, f)
		wantZero(t, "a Fit that is not valid", !ok, e)
		m, e := Misfits(shoe, unit, f)
		wantZero(t, "a Fit that is not valid", len(m) == 0, e)
	}
}

// P2.5

func TestFitsAsByBruteForce(t *testing.T) {
	r := sample()
	fitted, other := 0, 0
	for range 3000 {
		a, b := someOutline(t, r, 3+r.Intn(4), 12), someOutline(t, r, 3+r.Intn(3), 6)
		f := api.Fit{Line: r.Intn(13) - 6, Front: r.Intn(8), Back: r.Intn(8)}
		var want []api.Misfit
		for i, p := range b {
			n := f.Back
			if p.Y >= f.Line {
				n = f.Front
			}
			switch {
			case bruteWhere(a, p) < 0:
				want = append(want, api.Misfit{Corner: i, Kind: "outside"})
			case bruteSquare(a, p).Cmp(rat(n*n, 1)) > 0:
				want = append(want, api.Misfit{Corner: i, Kind: "wide"})
			}
		}
		got, e := Misfits(a, b, f)
		if !slices.Equal(got, want) || e != api.OK {
			t.Fatal("Misfits", a, b, f, "are", got, e, "and not", want)
		}
		ok, e := Fits(a, b, f)
		if ok != (len(want) == 0) || e != api.OK {
			t.Fatal("Fits", a, b, f, "is", ok, e)
		}
		if ok {
			fitted++
		} else {
			other++
		}
	}
	if fitted < 50 || other < 50 {
		t.Error("the shoes of this test are too much alike:", fitted, other)
	}
}

func TestTightestIsTheTightest(t *testing.T) {
	r := sample()
	fitted, none := 0, 0
	for range 3000 {
		most := []int{9, 100, api.MaxCoord}[r.Intn(3)]
		a, b := someOutline(t, r, 3+r.Intn(4), most), someOutline(t, r, 3+r.Intn(3), most/3)
		line := r.Intn(most+1) - most/2
		f, e := Tightest(a, b, line)
		if e != api.OK {
			none++
			wantErrno(t, "Tightest", e, api.ErrNone)
			if ok, _ := Fits(a, b, api.Fit{Line: line, Front: 10000, Back: 10000}); ok {
				t.Fatal("no Tightest", a, b, line)
			}
			continue
		}
		fitted++
		checkTightest(t, a, b, f)
	}
	if fitted < 50 || none < 50 {
		t.Error("the shoes of this test are too much alike:", fitted, none)
	}
}

func checkTightest(t *testing.T, a, b []api.Point, f api.Fit) {
	t.Helper()
	if ok, e := Fits(a, b, f); !ok || e != api.OK {
		t.Fatal("does not fit by Tightest:", a, b, f)
	}
	front := slices.ContainsFunc(b, func(p api.Point) bool { return p.Y >= f.Line })
	back := slices.ContainsFunc(b, func(p api.Point) bool { return p.Y < f.Line })
	if !front && f.Front != 0 || !back && f.Back != 0 {
		t.Fatal("Tightest where no corner counts:", a, b, f)
	}
	for _, less := range []api.Fit{{Line: f.Line, Front: f.Front - 1, Back: f.Back}, {Line: f.Line, Front: f.Front, Back: f.Back - 1}} {
		if ok, _ := Fits(a, b, less); ok {
			t.Fatal("Tightest", a, b, "is", f, "but", less, "fits")
		}
	}
}
