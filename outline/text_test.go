package outline

import (
	"math"
	"math/big"
	"slices"
	"strings"
	"testing"

	"clinch/api"
)

// 2.5

func TestCompare(t *testing.T) {
	for _, c := range []struct {
		a, b api.Ratio
		want int
	}{
		{api.Ratio{N: 1, D: 2}, api.Ratio{N: 2, D: 4}, 0},
		{api.Ratio{N: 1, D: 3}, api.Ratio{N: 1, D: 2}, -1},
		{api.Ratio{N: 1, D: 2}, api.Ratio{N: 1, D: 3}, 1},
		{api.Ratio{N: -1, D: 3}, api.Ratio{N: -1, D: 2}, 1},
		{api.Ratio{N: -1, D: 2}, api.Ratio{N: -2, D: 4}, 0},
		{api.Ratio{N: -1, D: 2}, api.Ratio{N: 0, D: 7}, -1},
		{api.Ratio{N: 0, D: 1}, api.Ratio{N: 0, D: math.MaxInt}, 0},
		{api.Ratio{N: 5, D: 0}, api.Ratio{N: 5, D: 1}, 0},
		{api.Ratio{N: 5, D: -3}, api.Ratio{N: 5, D: 1}, 0},
		{api.Ratio{N: 5, D: math.MinInt}, api.Ratio{N: 10, D: 2}, 0},
		{api.Ratio{N: 4, D: -1}, api.Ratio{N: 9, D: 2}, -1},
		{api.Ratio{}, api.Ratio{N: 0, D: 5}, 0},
		{api.Ratio{N: math.MaxInt, D: math.MaxInt}, api.Ratio{N: 1, D: 1}, 0},
		{api.Ratio{N: math.MaxInt, D: math.MaxInt - 1}, api.Ratio{N: math.MaxInt - 1, D: math.MaxInt - 2}, -1},
		{api.Ratio{N: math.MinInt, D: math.MaxInt}, api.Ratio{N: -1, D: 1}, -1},
		{api.Ratio{N: math.MinInt, D: 1}, api.Ratio{N: math.MaxInt, D: 1}, -1},
		{api.Ratio{N: math.MaxInt, D: 1}, api.Ratio{N: math.MinInt, D: 0}, 1},
		{api.Ratio{N: 1, D: math.MaxInt}, api.Ratio{N: 1, D: math.MaxInt - 1}, -1},
	} {
		if got := Compare(c.a, c.b); got != c.want {
			t.Error("Compare", c.a, c.b, "is", got)
		}
		if got := Compare(c.b, c.a); got != -c.want {
			t.Error("Compare", c.b, c.a, "is", got)
		}
	}
}

func TestCompareAsByBigNumbers(t *testing.T) {
	r := sample()
	number := func() int {
		if r.Intn(2) == 0 {
			return extremes[r.Intn(len(extremes))] + r.Intn(3) - 1 // may wrap around
		}
		return int(r.Uint64() >> r.Intn(64))
	}
	for range 100000 {
		a, b := api.Ratio{N: number(), D: number()}, api.Ratio{N: number(), D: number()}
		if r.Intn(4) == 0 {
			b.N = a.N
		}
		left := new(big.Int).Mul(big.NewInt(int64(a.N)), big.NewInt(int64(max(b.D, 1))))
		right := new(big.Int).Mul(big.NewInt(int64(b.N)), big.NewInt(int64(max(a.D, 1))))
		if got := Compare(a, b); got != left.Cmp(right) {
			t.Fatal("Compare", a, b, "is", got)
		}
	}
}

func TestFormat(t *testing.T) {
	for _, c := range []struct {
		l    []api.Point
		want string
	}{
		{unit, "0,0 10,0 10,10 0,10"},
		{points(-1, -20, 300, -4000, 10000, 0), "-1,-20 300,-4000 10000,0"},
		{whole, "-10000,-10000 10000,-10000 10000,10000 -10000,10000"},
	} {
		if got := Format(c.l); got != c.want {
			t.Errorf("Format of %v is %q", c.l, got)
		}
	}
	for name, l := range invalid() {
		if got := Format(l); got != "" {
			t.Errorf("Format of %s is %q", name, got)
		}
	}
}

func TestParse(t *testing.T) {
	for _, c := range []struct {
		s    string
		want []api.Point
	}{
		{"0,0 10,0 10,10 0,10", unit},
		{"-1,-20 300,-4000 10000,0", points(-1, -20, 300, -4000, 10000, 0)},
	} {
		got, e := Parse(c.s)
		wantErrno(t, "Parse", e, api.OK)
		wantPoints(t, "Parse", got, c.want)
	}
}

func TestParseReadsNothingElse(t *testing.T) {
	for _, s := range []string{
		"", " ", ",", "0", "0,0", "0,0 4,0", "0,0 4,0 0", "0,0 4,0 0,", "0,0 4,0 ,3", "0,0 4,0 0,3,", "0,0 4,0 0,3,1", "0,0,4,0,0,3",
		" 0,0 4,0 0,3", "0,0 4,0 0,3 ", "0,0  4,0 0,3", "0,0 4,0 0,3\n", "0,0\t4,0 0,3", "0, 0 4,0 0,3", "0,0 4,0 0,3\x00",
		"0,0 4,0 0,03", "00,0 4,0 0,3", "0,0 4,-0 0,3", "-0,0 4,0 0,3", "0,0 +4,0 0,3", "0,0 4,0 0,--3", "0,0 4,0 0,3.0", "0,0 0x4,0 0,3", "0,0 1_0,0 0,3", "0,0 1e1,0 0,3",
		"0,0 4,0 0,\u0663", "0,0 4,0 0,a", "0;0 4;0 0;3",
		"0,0 0,3 4,0",                    // clockwise
		"0,0 4,4 4,0 0,4",                // crosses
		"0,0 4,0 4,0 0,3",                // a corner twice
		"0,0 10001,0 0,3",                // out of range
		"0,0 4,0 0,4294967299",           // 3 in 32 bits
		"0,0 4,0 0,18446744073709551619", // 3 in 64 bits
		"0,0 4,0 0,99999999999999999999999999999999999999",
		strings.Repeat(" ", api.MaxText), strings.Repeat("0", api.MaxText), strings.Repeat("0,", api.MaxText/2),
		strings.Repeat("0,0 ", api.MaxText/4), text(staircase(65)),
	} {
		l, e := Parse(s)
		if e != api.ErrSyntax || len(l) != 0 {
			t.Errorf("Parse of %.60q is %v, errno %d", s, l, e)
		}
	}
	for name, l := range invalid() {
		if m, e := Parse(text(l)); e != api.ErrSyntax || len(m) != 0 {
			t.Errorf("Parse of %s is %v, errno %d", name, m, e)
		}
	}
}

// text is what Format would write if an outline were valid.
func text(l []api.Point) string {
	var words []string
	for _, p := range l {
		words = append(words, big.NewInt(int64(p.X)).String()+","+big.NewInt(int64(p.Y)).String())
	}
	return strings.Join(words, " ")
}

func TestParseOfLongTexts(t *testing.T) {
	for _, s := range []string{strings.Repeat(" ", api.MaxText+1), text(triangle) + strings.Repeat("x", api.MaxText), strings.Repeat("0,0 ", 1000000)} {
		l, e := Parse(s)
		if e != api.ErrLong || len(l) != 0 {
			t.Errorf("Parse of %.60q is %v, errno %d", s, l, e)
		}
	}
}

// P2.6

func TestSquareIsZeroJustOnTheOutline(t *testing.T) {
	r := sample()
	for _, l := range someOutlines(t, r, 40) {
		for i, p := range l {
			q := l[(i+1)%len(l)]
			for _, x := range []api.Point{p, at((p.X+q.X)/2, (p.Y+q.Y)/2), somePoint(r, 8), somePoint(r, 10000)} {
				s, _ := Square(l, x)
				n, e := Where(l, x)
				if (n == 0) != (s == api.Ratio{N: 0, D: 1}) || (n == 0) != (s.N == 0) || e != api.OK {
					t.Fatal("Square and Where", l, x, "are", s, n)
				}
			}
		}
	}
}

func TestParseOfFormat(t *testing.T) {
	r := sample()
	for _, l := range someOutlines(t, r, 100) {
		s := Format(l)
		m, e := Parse(s)
		if !slices.Equal(l, m) || e != api.OK || s != text(l) {
			t.Fatalf("Parse of Format of %v is %v, errno %d", l, m, e)
		}
	}
}
