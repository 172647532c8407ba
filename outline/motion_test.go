package outline

import (
	"math"
	"slices"
	"testing"

	"clinch/api"
)

// 2.3

func TestMirrored(t *testing.T) {
	for _, c := range []struct{ l, want []api.Point }{
		{unit, points(0, 0, 0, 10, -10, 10, -10, 0)},
		{triangle, points(0, 0, 0, 3, -4, 0)},
		{points(4, 0, 0, 3, 0, 0), points(-4, 0, 0, 0, 0, 3)},
		{dented, points(0, 0, 0, 4, -3, 1, -6, 4, -6, 0)},
		{sliver, points(10000, -10000, -9999, 9999, -10000, 9999)},
	} {
		got, e := Mirrored(c.l)
		wantErrno(t, "Mirrored", e, api.OK)
		wantPoints(t, "Mirrored", got, c.want)
	}
}

func TestTurned(t *testing.T) {
	turns := [4][]api.Point{triangle, points(0, 0, 0, 4, -3, 0), points(0, 0, -4, 0, 0, -3), points(0, 0, 0, -4, 3, 0)}
	for _, c := range []struct{ quarters, want int }{
		{0, 0}, {1, 1}, {2, 2}, {3, 3}, {4, 0}, {5, 1}, {-1, 3}, {-2, 2}, {-3, 1}, {-4, 0}, {-5, 3}, {400000001, 1},
		{math.MaxInt, 3}, {math.MaxInt - 1, 2}, {math.MinInt, 0}, {math.MinInt + 1, 1},
	} {
		got, e := Turned(triangle, c.quarters)
		wantErrno(t, "Turned", e, api.OK)
		wantPoints(t, "Turned", got, turns[c.want])
	}
}

func TestShifted(t *testing.T) {
	for _, c := range []struct {
		l    []api.Point
		by   api.Point
		want []api.Point
		e    api.Errno
	}{
		{triangle, at(0, 0), triangle, api.OK},
		{triangle, at(-5, 7), points(-5, 7, -1, 7, -5, 10), api.OK},
		{triangle, at(9996, 9997), points(9996, 9997, 10000, 9997, 9996, 10000), api.OK},
		{triangle, at(-10000, -10000), points(-10000, -10000, -9996, -10000, -10000, -9997), api.OK},
		{triangle, at(9997, 0), nil, api.ErrLimit},
		{triangle, at(0, 9998), nil, api.ErrLimit},
		{triangle, at(-10001, 0), nil, api.ErrLimit},
		{triangle, at(0, -10001), nil, api.ErrLimit},
		{triangle, at(20000, -20000), nil, api.ErrLimit},
		{triangle, at(20001, 0), nil, api.ErrRange},
		{triangle, at(-20001, 0), nil, api.ErrRange},
		{triangle, at(0, 20001), nil, api.ErrRange},
		{triangle, at(0, -20001), nil, api.ErrRange},
		{triangle, at(math.MaxInt, 0), nil, api.ErrRange},
		{triangle, at(0, math.MinInt), nil, api.ErrRange},
		{points(-10000, -10000, -9996, -10000, -10000, -9997), at(19996, 19997), points(9996, 9997, 10000, 9997, 9996, 10000), api.OK},
		{points(-10000, -10000, -10000, -10000, -10000, -10000), at(0, 0), nil, api.ErrInvalid},
	} {
		got, e := Shifted(c.l, c.by)
		wantErrno(t, "Shifted", e, c.e)
		wantPoints(t, "Shifted", got, c.want)
	}
}

func TestFirst(t *testing.T) {
	for _, c := range []struct{ l, want []api.Point }{
		{unit, unit},
		{points(10, 0, 10, 10, 0, 10, 0, 0), unit},
		{points(10, 10, 0, 10, 0, 0, 10, 0), unit},
		{points(0, 10, 0, 0, 10, 0, 10, 10), unit},
		{points(0, 4, -3, -5, 7, 1), points(-3, -5, 7, 1, 0, 4)},
		{points(-9, 2, 1, 1, 2, 8), points(1, 1, 2, 8, -9, 2)},
		{points(0, 5, 0, 0, 5, 0, 10, 0, 10, 10, 0, 10), points(0, 0, 5, 0, 10, 0, 10, 10, 0, 10, 0, 5)},
		{points(6, 0, 6, 4, 3, 1, 0, 4, 0, 0), dented},
	} {
		got, e := First(c.l)
		wantErrno(t, "First", e, api.OK)
		wantPoints(t, "First", got, c.want)
	}
}

func TestAlike(t *testing.T) {
	for i := range dented {
		for j := range dented {
			if !Alike(slices.Concat(dented[i:], dented[:i]), slices.Concat(dented[j:], dented[:j])) {
				t.Error("not alike:", i, j)
			}
		}
	}
	backwards := slices.Clone(unit)
	slices.Reverse(backwards)
	for _, c := range [][2][]api.Point{
		{unit, straight}, // the same points, but other corners
		{unit, triangle}, {unit, whole},
		{unit, points(0, 0, 10, 0, 10, 10, 0, 9)},
		{unit, points(1, 0, 11, 0, 11, 10, 1, 10)},
		{unit, backwards}, {backwards, backwards}, {nil, nil}, {nil, unit}, {unit, nil},
	} {
		if Alike(c[0], c[1]) {
			t.Error("alike:", c)
		}
	}
	for name, l := range invalid() {
		if Alike(l, l) || Alike(l, unit) || Alike(unit, l) {
			t.Error("alike:", name)
		}
	}
}

func TestPair(t *testing.T) {
	lefts := points(1, 0, 6, 1, 6, 5, 2, 4)
	rights := points(-6, 1, -1, 0, -2, 4, -6, 5)
	for _, c := range []struct {
		a, b []api.Point
		want bool
	}{
		{lefts, rights, true}, {rights, lefts, true}, {lefts, lefts, false}, {rights, rights, false},
		{unit, unit, false}, {unit, points(-10, 0, 0, 0, 0, 10, -10, 10), true},
		{whole, whole, true},
		{points(-1, 0, 1, 0, 0, 5), points(0, 5, -1, 0, 1, 0), true}, // a shape that is its own mirrored one
		{straight, points(-10, 0, 0, 0, 0, 10, -10, 10), false},
	} {
		for i := range c.b {
			if got, e := Pair(c.a, slices.Concat(c.b[i:], c.b[:i])); got != c.want || e != api.OK {
				t.Error("Pair", c.a, c.b, "is", got, e)
			}
		}
	}
	for name, l := range invalid() {
		ok, e := Pair(l, unit)
		wantZero(t, name, !ok, e)
		ok, e = Pair(unit, l)
		wantZero(t, name, !ok, e)
		ok, e = Pair(l, l)
		wantZero(t, name, !ok, e)
	}
}

// P2.3

func TestMotionsThatComeBack(t *testing.T) {
	r := sample()
	for _, l := range someOutlines(t, r, 30) {
		m, e := Mirrored(l)
		wantErrno(t, "Mirrored", e, api.OK)
		again, _ := Mirrored(m)
		wantPoints(t, "Mirrored twice", again, l)
		if m[0] != at(-l[0].X, l[0].Y) {
			t.Error("Mirrored", l, "begins at", m[0])
		}
		if ok, e := Pair(l, m); !ok || e != api.OK {
			t.Error("no pair:", l, m)
		}
		q := l
		for range 4 {
			q, e = Turned(q, 1)
			wantErrno(t, "Turned", e, api.OK)
		}
		wantPoints(t, "four quarters", q, l)
		f, _ := First(l)
		if !Alike(f, l) || slices.MinFunc(l, lower) != f[0] {
			t.Error("First", l, "is", f)
		}
	}
}

func TestMotionsCarryAllWithThem(t *testing.T) {
	r := sample()
	for _, l := range someOutlines(t, r, 30) {
		lo, hi, _ := Box(l)
		by := somePoint(r, 20000)
		by.X = min(max(by.X, -10000-lo.X), 10000-hi.X)
		by.Y = min(max(by.Y, -10000-lo.Y), 10000-hi.Y)
		quarters := r.Intn(9) - 4
		shifted, e := Shifted(l, by)
		wantErrno(t, "Shifted", e, api.OK)
		turned, e := Turned(l, quarters)
		wantErrno(t, "Turned", e, api.OK)
		mirror, e := Mirrored(l)
		wantErrno(t, "Mirrored", e, api.OK)
		checkMotion(t, l, shifted, func(p api.Point) api.Point { return at(p.X+by.X, p.Y+by.Y) })
		checkMotion(t, l, mirror, func(p api.Point) api.Point { return at(-p.X, p.Y) })
		checkMotion(t, l, turned, func(p api.Point) api.Point {
			for range quarters + 4 {
				p = at(-p.Y, p.X)
			}
			return p
		})
	}
}

func checkMotion(t *testing.T, l, m []api.Point, motion func(api.Point) api.Point) {
	t.Helper()
	if !Valid(m) || len(m) != len(l) || shape(l) != shape(m) {
		t.Fatal("the motion of", l, "is", m)
	}
	for _, p := range l {
		if !slices.Contains(m, motion(p)) {
			t.Fatal("the motion of", l, "is", m, "without", motion(p))
		}
	}
	r := sample()
	lo, hi, _ := Box(l)
	for range 20 {
		p := at(lo.X+r.Intn(hi.X-lo.X+1), lo.Y+r.Intn(hi.Y-lo.Y+1))
		q := motion(p)
		a, _ := Where(l, p)
		b, e := Where(m, q)
		c, _ := Square(l, p)
		d, _ := Square(m, q)
		if a != b || c != d || e != api.OK {
			t.Fatal("the motion of", l, p, "is", m, q, "with", a, b, c, d, e)
		}
	}
}

func shape(l []api.Point) [4]int {
	area, _ := Area2(l)
	border, _ := Border(l)
	inner, _ := Inner(l)
	convex := 0
	if ok, _ := Convex(l); ok {
		convex = 1
	}
	return [4]int{area, border, inner, convex}
}
