package outline

import (
	"math/rand"
	"slices"
	"testing"

	"clinch/api"
)

// P2.1 and P1 (R1, R4)

// everyCall calls all functions that take outlines, and gives back the lists that they return.
func everyCall(a, b []api.Point, p api.Point, n int, f api.Fit) [][]api.Point {
	Valid(a)
	Area2(a)
	Where(a, p)
	Square(a, p)
	Box(a)
	Border(a)
	Inner(a)
	Convex(a)
	hull, _ := Hull(a)
	mirror, _ := Mirrored(a)
	turned, _ := Turned(a, n)
	shifted, _ := Shifted(a, p)
	begun, _ := First(a)
	Alike(a, b)
	Pair(a, b)
	ValidFit(f)
	Fits(a, b, f)
	Misfits(a, b, f)
	Tightest(a, b, n)
	Compare(api.Ratio{N: p.X, D: p.Y}, api.Ratio{N: n, D: f.Line})
	parsed, _ := Parse(Format(a))
	return [][]api.Point{hull, mirror, turned, shifted, begun, parsed}
}

func TestEveryCallEnds(t *testing.T) {
	r := sample()
	number := func() int { return extremes[r.Intn(len(extremes))] }
	list := func() []api.Point {
		l := someList(r, r.Intn(7), 2)
		if len(l) > 0 && r.Intn(2) == 0 {
			l[r.Intn(len(l))] = at(number(), number())
		}
		return l
	}
	for range 20000 {
		a, b := list(), list()
		if r.Intn(2) == 0 {
			a = someOutline(t, r, 3+r.Intn(3), 4)
		}
		everyCall(a, b, at(number(), number()), number(), api.Fit{Line: number(), Front: number(), Back: number()})
		Parse(someText(r))
	}
	long := make([]api.Point, 1000000)
	everyCall(long, long, at(0, 0), 1, loose)
}

func someText(r *rand.Rand) string {
	s := make([]byte, r.Intn(30))
	for i := range s {
		s[i] = "0123456789,, -+\x00\xff"[r.Intn(17)]
	}
	return string(s)
}

func TestArgumentsStay(t *testing.T) {
	for _, l := range [][]api.Point{unit, triangle, dented, straight, points(0, 10, 0, 0, 10, 0, 10, 10), points(0, 0, 0, 3, 4, 0)} {
		a, all := spare(l)
		b, others := spare(shoe)
		before, before2 := slices.Clone(all), slices.Clone(others)
		check := func(what string) {
			t.Helper()
			if !slices.Equal(all, before) || !slices.Equal(others, before2) {
				t.Fatal(what, l, "has become", all, others)
			}
		}
		results := everyCall(a, b, at(1, 2), 4, loose)
		everyCall(b, a, at(1, 2), 4, loose)
		check("after the calls")
		wants := make([][]api.Point, len(results))
		for i, m := range results {
			wants[i] = slices.Clone(m)
		}
		// What is written to one result, also behind its end, shows nowhere else.
		for i, m := range results {
			if !slices.Equal(m, wants[i]) {
				t.Fatal("results share memory:", i)
			}
			m = m[:cap(m)]
			for j := range m {
				m[j] = at(-99, -99)
			}
			check("after a result was changed")
		}
	}
}

func TestMisfitsAreNewMemory(t *testing.T) {
	a, _ := Misfits(unit, shoe, loose)
	b, _ := Misfits(unit, shoe, loose)
	a[0] = api.Misfit{Corner: 9, Kind: "other"}
	if c, _ := Misfits(unit, shoe, loose); b[0].Corner != 0 || c[0].Corner != 0 {
		t.Error("Misfits share memory")
	}
}
