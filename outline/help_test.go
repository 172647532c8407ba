package outline

import (
	"cmp"
	"math"
	"math/big"
	"math/rand"
	"slices"
	"testing"

	"clinch/api"
)

var (
	unit     = points(0, 0, 10, 0, 10, 10, 0, 10)
	triangle = points(0, 0, 4, 0, 0, 3)
	// dented turns right at 3,1.
	dented = points(0, 0, 6, 0, 6, 4, 3, 1, 0, 4)
	// straight goes straight on at 5,0 and at 0,5.
	straight = points(0, 0, 5, 0, 10, 0, 10, 10, 0, 10, 0, 5)
	whole    = points(-10000, -10000, 10000, -10000, 10000, 10000, -10000, 10000)
	// sliver is about as thin as an outline of its length can be.
	sliver = points(-10000, -10000, 10000, 9999, 9999, 9999)

	extremes = []int{math.MinInt, math.MinInt + 1, -20001, -20000, -10001, -10000, -1, 0, 1, 4, 10000, 10001, 20000, 20001, math.MaxInt - 1, math.MaxInt}
)

func points(numbers ...int) []api.Point {
	var l []api.Point
	for i := 0; i < len(numbers); i += 2 {
		l = append(l, api.Point{X: numbers[i], Y: numbers[i+1]})
	}
	return l
}

func at(x, y int) api.Point {
	return api.Point{X: x, Y: y}
}

// invalid has an outline for each way of not being valid.
func invalid() map[string][]api.Point {
	return map[string][]api.Point{
		"nil":                  nil,
		"empty":                {},
		"one corner":           points(0, 0),
		"two corners":          points(0, 0, 1, 1),
		"a corner twice":       points(0, 0, 4, 0, 4, 0, 0, 3),
		"first corner twice":   points(0, 0, 4, 0, 0, 3, 0, 0),
		"touches itself":       points(0, 0, 4, 0, 4, 4, 2, 0, 0, 4),
		"corner on a corner":   points(0, 0, 2, 2, 4, 0, 4, 4, 2, 2, 0, 4),
		"corner on an edge":    points(0, 0, 8, 0, 8, 8, 4, 0, 0, 8),
		"edges one on another": points(0, 0, 8, 0, 8, 4, 6, 0, 2, 0, 0, 4),
		"crosses":              points(0, 0, 4, 4, 4, 0, 0, 4),
		"crosses with area":    points(0, 0, 10, 0, 10, 10, 5, -3, 0, 10),
		"goes back":            points(0, 0, 4, 0, 4, 4, 4, 2, 0, 2),
		"goes back over all":   points(0, 0, 4, 0, 4, 4, 4, -1, 0, 2),
		"goes back at first":   points(0, 0, 2, 0, 4, 0, 4, 4, 0, 4, 1, 0),
		"clockwise":            points(0, 0, 0, 3, 4, 0),
		"on a line":            points(0, 0, 1, 1, 2, 2),
		"on a line and back":   points(0, 0, 2, 2, 1, 1),
		"X too great":          points(0, 0, 10001, 0, 0, 3),
		"X too little":         points(-10001, 0, 4, 0, 0, 3),
		"Y too great":          points(0, 0, 4, 0, 0, 10001),
		"Y too little":         points(0, -10001, 4, 0, 0, 3),
		"the greatest numbers": points(math.MinInt, math.MinInt, math.MaxInt, math.MinInt, math.MaxInt, math.MaxInt),
		"65 corners":           staircase(65),
	}
}

// staircase is a valid outline of n corners, if there may be so many.
func staircase(n int) []api.Point {
	var l []api.Point
	for i := range n - 1 {
		l = append(l, at(i, i*i))
	}
	return append(l, at(0, n*n))
}

func sample() *rand.Rand {
	return rand.New(rand.NewSource(2))
}

func somePoint(r *rand.Rand, most int) api.Point {
	return at(r.Intn(2*most+1)-most, r.Intn(2*most+1)-most)
}

func someList(r *rand.Rand, n, most int) []api.Point {
	var l []api.Point
	for range n {
		l = append(l, somePoint(r, most))
	}
	return l
}

// someOutline reverses stretches of a list that cross until none do, and takes another list if that does not make it valid.
func someOutline(t *testing.T, r *rand.Rand, n, most int) []api.Point {
	t.Helper()
	for range 10000 {
		l := someList(r, n, most)
		untangle(l)
		if area2(l) < 0 {
			slices.Reverse(l)
		}
		if Valid(l) {
			return l
		}
	}
	t.Fatal("found no outline of", n, "corners up to", most)
	return nil
}

func untangle(l []api.Point) {
	for again, tries := true, 0; again && tries < 1000; tries++ {
		again = false
		for i := range l {
			for j := i + 2; j < len(l); j++ {
				p, q, s, u := l[i], l[i+1], l[j], l[(j+1)%len(l)]
				if side(p, q, s)*side(p, q, u) < 0 && side(s, u, p)*side(s, u, q) < 0 {
					slices.Reverse(l[i+1 : j+1])
					again = true
				}
			}
		}
	}
}

// someOutlines are outlines of all sizes, on few points and on many.
func someOutlines(t *testing.T, r *rand.Rand, count int) [][]api.Point {
	t.Helper()
	list := [][]api.Point{unit, triangle, dented, straight, whole, sliver, staircase(64)}
	for range count {
		list = append(list,
			someOutline(t, r, 3+r.Intn(5), 3),
			someOutline(t, r, 3+r.Intn(10), 8),
			someOutline(t, r, 3+r.Intn(40), 100),
			someOutline(t, r, 3+r.Intn(62), api.MaxCoord))
	}
	return list
}

func rat(n, d int) *big.Rat {
	return big.NewRat(int64(n), int64(d))
}

// bruteSquare looks for the nearest point of each edge: its corner p and a part of the way to q that is from 0 to 1.
func bruteSquare(l []api.Point, x api.Point) *big.Rat {
	var least *big.Rat
	for i, p := range l {
		q := l[(i+1)%len(l)]
		part := rat((x.X-p.X)*(q.X-p.X)+(x.Y-p.Y)*(q.Y-p.Y), (q.X-p.X)*(q.X-p.X)+(q.Y-p.Y)*(q.Y-p.Y))
		if part.Sign() < 0 {
			part = rat(0, 1)
		}
		if part.Cmp(rat(1, 1)) > 0 {
			part = rat(1, 1)
		}
		sum := new(big.Rat)
		for _, c := range [][3]int{{p.X, q.X, x.X}, {p.Y, q.Y, x.Y}} {
			away := new(big.Rat).Mul(part, rat(c[1]-c[0], 1))
			away.Add(away, rat(c[0]-c[2], 1))
			sum.Add(sum, away.Mul(away, away))
		}
		if least == nil || sum.Cmp(least) < 0 {
			least = sum
		}
	}
	return least
}

// bruteWhere sends a ray that is so flat that it meets no other point with whole coordinates in the range.
func bruteWhere(l []api.Point, x api.Point) int {
	if bruteSquare(l, x).Sign() == 0 {
		return 0
	}
	far := at(x.X+50000, x.Y+1)
	place := -1
	for i, p := range l {
		q := l[(i+1)%len(l)]
		a, b := turn(x, far, p), turn(x, far, q)
		if a != b && turn(p, q, x) != turn(p, q, far) {
			place = -place
		}
	}
	return place
}

func turn(a, b, c api.Point) int {
	return cmp.Compare((b.X-a.X)*(c.Y-a.Y), (b.Y-a.Y)*(c.X-a.X))
}

// bruteValid asks of each two edges which points they have in common.
func bruteValid(l []api.Point) bool {
	if len(l) < 3 || len(l) > 64 {
		return false
	}
	sum := 0
	for i, p := range l {
		q := l[(i+1)%len(l)]
		sum += p.X*q.Y - q.X*p.Y
		if slices.Contains(l[i+1:], p) || max(p.X, -p.X, p.Y, -p.Y) > 10000 {
			return false
		}
		for j := range l[:i] {
			r, s := l[j], l[j+1]
			one, some := common(p, q, r, s)
			follow := j == i-1 || j == 0 && i == len(l)-1
			if some && (!follow || !one) {
				return false
			}
		}
	}
	return sum > 0
}

// common tells whether two edges have just one point in common, and whether they have any: the parts of the way of the first edge that lie on the second one are from lo to hi.
func common(p, q, r, s api.Point) (one, some bool) {
	lo, hi := rat(0, 1), rat(1, 1)
	// A point p + part * (q - p) is on the edge from r to s if the line through it has it on neither side, and if it is between its ends.
	for _, c := range bounds(p, q, r, s) {
		begin, slope := c[0], c[1] // begin + part * slope is at least 0
		switch {
		case slope == 0 && begin < 0:
			return false, false
		case slope > 0:
			if part := rat(-begin, slope); part.Cmp(lo) > 0 {
				lo = part
			}
		case slope < 0:
			if part := rat(-begin, slope); part.Cmp(hi) < 0 {
				hi = part
			}
		}
	}
	return lo.Cmp(hi) == 0, lo.Cmp(hi) <= 0
}

func bounds(p, q, r, s api.Point) [][2]int {
	line := func(x api.Point) int { return (s.X-r.X)*(x.Y-r.Y) - (s.Y-r.Y)*(x.X-r.X) }
	along := func(x api.Point) int { return (s.X-r.X)*(x.X-r.X) + (s.Y-r.Y)*(x.Y-r.Y) }
	length := along(s)
	return [][2]int{
		{line(p), line(q) - line(p)},
		{-line(p), line(p) - line(q)},
		{along(p), along(q) - along(p)},
		{length - along(p), along(p) - along(q)},
	}
}

func wantErrno(t *testing.T, what string, got, want api.Errno) {
	t.Helper()
	if got != want {
		t.Errorf("%s: errno %d, want %d", what, got, want)
	}
}

func wantPoints(t *testing.T, what string, got, want []api.Point) {
	t.Helper()
	if !slices.Equal(got, want) {
		t.Errorf("%s: %v, want %v", what, got, want)
	}
}

// spare is a copy of a list that has room behind it, with numbers in it.
func spare(l []api.Point) (part, all []api.Point) {
	all = append(slices.Clone(l), points(77, 77, 78, 78, 79, 79)...)
	return all[:len(l)], all
}
