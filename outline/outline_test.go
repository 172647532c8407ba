package outline

import (
	"slices"
	"testing"

	"clinch/api"
)

// 2.1

func TestValid(t *testing.T) {
	for _, l := range [][]api.Point{
		unit, triangle, dented, straight, whole, sliver, staircase(64),
		points(1, 0, 0, 1, 0, 0),
		points(0, 0, 1, 0, 2, 0, 3, 0, 0, 3), // goes straight on twice
		points(0, 0, 4, 0, 4, 4, 2, 1, 0, 4), // comes near an edge
	} {
		if !Valid(l) {
			t.Error("not valid:", l)
		}
	}
	for name, l := range invalid() {
		if Valid(l) {
			t.Error("valid:", name, l)
		}
	}
}

func TestValidFromEachCorner(t *testing.T) {
	check := func(l []api.Point, want bool) {
		for i := range l {
			if m := slices.Concat(l[i:], l[:i]); Valid(m) != want {
				t.Error("Valid", m, "is", !want)
			}
		}
	}
	check(dented, true)
	check(straight, true)
	for _, l := range invalid() {
		check(l, false)
	}
}

func TestValidAsByBruteForce(t *testing.T) {
	r := sample()
	valid := 0
	for range 60000 {
		l := someList(r, 3+r.Intn(5), 1+r.Intn(4))
		if r.Intn(2) == 0 {
			untangle(l)
		}
		want := bruteValid(l)
		if Valid(l) != want {
			t.Fatal("Valid", l, "is", !want)
		}
		if want {
			valid++
		}
	}
	if valid < 5000 {
		t.Error("only so many were valid:", valid)
	}
}

func TestArea2(t *testing.T) {
	for _, c := range []struct {
		l    []api.Point
		want int
	}{{unit, 200}, {triangle, 12}, {dented, 30}, {straight, 200}, {whole, 800000000}, {sliver, 19999}} {
		if got, e := Area2(c.l); got != c.want || e != api.OK {
			t.Error("Area2", c.l, "is", got, e)
		}
	}
}

func TestWhere(t *testing.T) {
	for _, c := range []struct {
		l    []api.Point
		x, y int
		want int
	}{
		{unit, 5, 5, 1}, {unit, 1, 1, 1}, {unit, 9, 9, 1},
		{unit, 0, 0, 0}, {unit, 10, 10, 0}, {unit, 10, 0, 0}, {unit, 0, 10, 0}, {unit, 5, 0, 0}, {unit, 0, 5, 0}, {unit, 10, 5, 0}, {unit, 5, 10, 0},
		{unit, 11, 5, -1}, {unit, -1, 5, -1}, {unit, 5, 11, -1}, {unit, 5, -1, -1},
		{unit, -1, 0, -1}, {unit, -1, 10, -1}, {unit, 11, 0, -1}, {unit, 11, 10, -1}, // beside an edge, on its line
		{triangle, 2, 1, 1}, {triangle, 4, 3, -1}, {triangle, 2, 2, -1},
		{dented, 3, 1, 0}, {dented, 1, 1, 1}, {dented, 5, 1, 1}, {dented, -1, 1, -1}, // the ray goes through a corner that only touches it
		{dented, 3, 2, -1}, {dented, 2, 2, 0}, {dented, 3, 4, -1}, {dented, -1, 4, -1}, {dented, -1, 0, -1},
		{straight, 3, 5, 1}, {straight, -1, 5, -1}, {straight, 5, 0, 0}, // the ray goes through a corner that goes straight on
		{points(0, 0, 4, 4, 8, 4, 8, 8, 0, 8), 1, 4, 1}, // the ray goes along an edge
		{points(0, 0, 4, 4, 8, 4, 8, 8, 0, 8), -1, 4, -1},
		{points(0, 0, 4, 4, 8, 4, 8, 8, 0, 8), 6, 3, -1},
		{points(0, 0, 8, 0, 8, 8, 6, 4, 4, 4, 2, 8, 0, 8), 1, 4, 1},
		{points(0, 0, 8, 0, 8, 8, 6, 4, 4, 4, 2, 8, 0, 8), 5, 5, -1},
		{whole, 10000, 10000, 0}, {whole, -10000, 9999, 0}, {whole, 9999, -9999, 1},
		{sliver, 10000, 10000, -1}, {sliver, 9999, 9999, 0}, {sliver, 0, 0, 0}, {sliver, 1, 0, -1}, {sliver, 0, 1, -1},
	} {
		if got, e := Where(c.l, at(c.x, c.y)); got != c.want || e != api.OK {
			t.Error("Where", c.l, c.x, c.y, "is", got, e)
		}
	}
}

func TestWhereAsByBruteForce(t *testing.T) {
	r := sample()
	count := [3]int{}
	for range 400 {
		l := someOutline(t, r, 3+r.Intn(8), 5)
		for x := -6; x <= 6; x++ {
			for y := -6; y <= 6; y++ {
				want := bruteWhere(l, at(x, y))
				if got, e := Where(l, at(x, y)); got != want || e != api.OK {
					t.Fatal("Where", l, x, y, "is", got, e, "and not", want)
				}
				count[want+1]++
			}
		}
	}
	if slices.Min(count[:]) < 4000 {
		t.Error("the points of this test are too much alike:", count)
	}
}

func TestSquare(t *testing.T) {
	for _, c := range []struct {
		l    []api.Point
		x, y int
		n, d int
	}{
		{unit, 5, 3, 9, 1}, {unit, 5, 5, 25, 1}, {unit, 13, 14, 25, 1}, {unit, 12, 5, 4, 1}, {unit, -3, 0, 9, 1},
		{unit, 0, 0, 0, 1}, {unit, 7, 0, 0, 1},
		{triangle, 4, 3, 144, 25}, {triangle, 1, 1, 1, 1}, {triangle, 0, 3, 0, 1}, {triangle, -3, -4, 25, 1},
		{points(0, 0, 2, 0, 0, 2), 2, 2, 2, 1},   // 4 / 2
		{points(0, 0, 6, 0, 6, 2), 2, 2, 8, 5},   // 64 / 40
		{whole, 0, 0, 100000000, 1},              // as far inside as can be
		{triangle, -10000, -10000, 200000000, 1}, // from a corner
		{sliver, 10000, -10000, 159984000400000000, 799960001},
		{points(-10000, -10000, 10000, -10000, -10000, -9999), 10000, 10000, 160000000000000000, 400000001}, // the greatest numerator
	} {
		got, e := Square(c.l, at(c.x, c.y))
		if want := (api.Ratio{N: c.n, D: c.d}); got != want || e != api.OK {
			t.Error("Square", c.l, c.x, c.y, "is", got, e, "and not", want)
		}
	}
}

func TestSquareAsByBruteForce(t *testing.T) {
	r := sample()
	for _, l := range someOutlines(t, r, 60) {
		_, hi, _ := Box(l)
		for range 30 {
			p := somePoint(r, min(2*max(hi.X, hi.Y, 1), api.MaxCoord))
			want := bruteSquare(l, p)
			got, e := Square(l, p)
			if e != api.OK || int64(got.N) != want.Num().Int64() || int64(got.D) != want.Denom().Int64() {
				t.Fatal("Square", l, p, "is", got, e, "and not", want)
			}
		}
	}
}

func TestBox(t *testing.T) {
	for _, c := range []struct {
		l      []api.Point
		lo, hi api.Point
	}{
		{unit, at(0, 0), at(10, 10)},
		{triangle, at(0, 0), at(4, 3)},
		{sliver, at(-10000, -10000), at(10000, 9999)},
		{points(3, -7, 5, -2, -6, 8), at(-6, -7), at(5, 8)},
		{points(-5, -6, -2, -9, -1, -3), at(-5, -9), at(-1, -3)},
		{points(2, 3, 8, 5, 4, 7), at(2, 3), at(8, 7)},
	} {
		if lo, hi, e := Box(c.l); lo != c.lo || hi != c.hi || e != api.OK {
			t.Error("Box", c.l, "is", lo, hi, e)
		}
	}
}

// 2.2

func TestBorderAndInner(t *testing.T) {
	for _, c := range []struct {
		l             []api.Point
		border, inner int
	}{
		{unit, 40, 81}, {triangle, 8, 3}, {straight, 40, 81}, {dented, 20, 6},
		{whole, 80000, 19999 * 19999},
		{sliver, 20001, 0},
	} {
		if n, e := Border(c.l); n != c.border || e != api.OK {
			t.Error("Border", c.l, "is", n, e)
		}
		if n, e := Inner(c.l); n != c.inner || e != api.OK {
			t.Error("Inner", c.l, "is", n, e)
		}
	}
}

// P2.2

func TestPointsAreCounted(t *testing.T) {
	r := sample()
	for range 400 {
		l := someOutline(t, r, 3+r.Intn(8), 5)
		border, inner := 0, 0
		for x := -5; x <= 5; x++ {
			for y := -5; y <= 5; y++ {
				switch bruteWhere(l, at(x, y)) {
				case 0:
					border++
				case 1:
					inner++
				}
			}
		}
		gotBorder, _ := Border(l)
		gotInner, _ := Inner(l)
		if gotBorder != border || gotInner != inner {
			t.Fatal("points of", l, gotBorder, gotInner, "and not", border, inner)
		}
	}
	for _, l := range someOutlines(t, r, 20) {
		area, _ := Area2(l)
		border, _ := Border(l)
		inner, _ := Inner(l)
		if area != 2*inner+border-2 {
			t.Fatal("points of", l, area, border, inner)
		}
	}
}

func TestConvex(t *testing.T) {
	for _, c := range []struct {
		l    []api.Point
		want bool
	}{
		{unit, true}, {triangle, true}, {straight, true}, {whole, true}, {sliver, true},
		{dented, false}, {staircase(64), true},
		{points(0, 0, 4, -1, 8, 0, 8, 8, 0, 8), true},
		{points(0, 0, 4, 1, 8, 0, 8, 8, 0, 8), false},
	} {
		for i := range c.l {
			l := slices.Concat(c.l[i:], c.l[:i])
			if got, e := Convex(l); got != c.want || e != api.OK {
				t.Error("Convex", l, "is", got, e)
			}
		}
	}
}

func TestHull(t *testing.T) {
	for _, c := range []struct{ l, want []api.Point }{
		{unit, unit},
		{triangle, triangle},
		{points(10, 10, 0, 10, 0, 0, 10, 0), unit},
		{straight, unit},
		{dented, points(0, 0, 6, 0, 6, 4, 0, 4)},
		{points(5, 1, 0, 6, 0, 1), points(0, 1, 5, 1, 0, 6)},
		{points(0, 4, 4, 0, 8, 4, 6, 4, 4, 4, 2, 4), points(4, 0, 8, 4, 0, 4)},
		{points(0, 0, 8, 0, 7, 1, 8, 8, 1, 7), points(0, 0, 8, 0, 8, 8, 1, 7)},
		{points(0, 0, 3, 3, 6, 0, 3, 6), points(0, 0, 6, 0, 3, 6)},
		{points(-6, -6, 3, -3, 6, 6, 0, 0), points(-6, -6, 3, -3, 6, 6)},
	} {
		got, e := Hull(c.l)
		wantErrno(t, "Hull", e, api.OK)
		wantPoints(t, "Hull", got, c.want)
	}
}

// P2.4

func TestHullIsTheLeastConvexOutline(t *testing.T) {
	r := sample()
	convex, other := 0, 0
	for _, l := range someOutlines(t, r, 100) {
		h, e := Hull(l)
		wantErrno(t, "Hull", e, api.OK)
		if ok, _ := Convex(h); !ok {
			t.Fatal("Hull of", l, "is", h)
		}
		checkHullCorners(t, l, h)
		for _, p := range l {
			if n, e := Where(h, p); n < 0 || e != api.OK {
				t.Fatal("Hull of", l, "is", h, "without", p)
			}
		}
		was, _ := Area2(l)
		is, _ := Area2(h)
		ok, _ := Convex(l)
		if is < was || (is == was) != ok {
			t.Fatal("Hull of", l, "is", h, "with the area", is, "and not", was)
		}
		if ok {
			convex++
		} else {
			other++
		}
	}
	if convex < 50 || other < 50 {
		t.Error("the outlines of this test are too much alike:", convex, other)
	}
}

func checkHullCorners(t *testing.T, l, h []api.Point) {
	t.Helper()
	for i, p := range h {
		before, after := h[(i+len(h)-1)%len(h)], h[(i+1)%len(h)]
		if turn(before, p, after) <= 0 || !slices.Contains(l, p) {
			t.Fatal("Hull of", l, "is", h, "with the corner", p)
		}
		if p.Y < h[0].Y || p.Y == h[0].Y && p.X < h[0].X {
			t.Fatal("Hull of", l, "is", h, "and begins at", h[0])
		}
	}
	if again, _ := Hull(h); !slices.Equal(again, h) {
		t.Fatal("Hull of the hull", h, "is", again)
	}
}

// The errors of the functions of one outline.

func TestInvalidOutlines(t *testing.T) {
	zero := at(0, 0)
	for name, l := range invalid() {
		n, e := Area2(l)
		wantZero(t, name, n == 0, e)
		n, e = Where(l, zero)
		wantZero(t, name, n == 0, e)
		n, e = Where(l, at(10001, 0))
		wantZero(t, name, n == 0, e)
		s, e := Square(l, zero)
		wantZero(t, name, s == api.Ratio{}, e)
		s, e = Square(l, at(0, 10001))
		wantZero(t, name, s == api.Ratio{}, e)
		lo, hi, e := Box(l)
		wantZero(t, name, lo == zero && hi == zero, e)
		n, e = Border(l)
		wantZero(t, name, n == 0, e)
		n, e = Inner(l)
		wantZero(t, name, n == 0, e)
		ok, e := Convex(l)
		wantZero(t, name, !ok, e)
		m, e := Hull(l)
		wantZero(t, name, len(m) == 0, e)
		m, e = Mirrored(l)
		wantZero(t, name, len(m) == 0, e)
		m, e = Turned(l, 1)
		wantZero(t, name, len(m) == 0, e)
		m, e = Shifted(l, at(20001, 0))
		wantZero(t, name, len(m) == 0, e)
		m, e = First(l)
		wantZero(t, name, len(m) == 0, e)
	}
}

func wantZero(t *testing.T, what string, zero bool, e api.Errno) {
	t.Helper()
	if e != api.ErrInvalid || !zero {
		t.Errorf("%s: errno %d, and all else zero: %v", what, e, zero)
	}
}

func TestPointsOutOfRange(t *testing.T) {
	for _, p := range []api.Point{at(10001, 0), at(-10001, 0), at(0, 10001), at(0, -10001), at(extremes[0], extremes[0]), at(0, extremes[len(extremes)-1])} {
		n, e := Where(whole, p)
		wantErrno(t, "Where", e, api.ErrRange)
		s, e := Square(whole, p)
		wantErrno(t, "Square", e, api.ErrRange)
		if n != 0 || s != (api.Ratio{}) {
			t.Error("with an error:", n, s)
		}
	}
	for _, p := range whole {
		if n, e := Where(triangle, p); n != -1 || e != api.OK {
			t.Error("Where", p, "is", n, e)
		}
		if _, e := Square(triangle, p); e != api.OK {
			t.Error("Square", p, e)
		}
	}
}
