package outline

import (
	"math/bits"

	"clinch/api"
)

// product is a number of two words, with a sign: what a numerator times a denominator can be.
type product struct {
	high int64
	low  uint64
}

// times multiplies any n by a d above 0.
func times(n, d int) product {
	high, low := bits.Mul64(uint64(n), uint64(d))
	if n < 0 {
		// As a word without a sign such an n is 2^64 too great.
		high -= uint64(d)
	}
	return product{int64(high), low}
}

func (a product) below(b product) bool {
	if a.high == b.high {
		return a.low < b.low
	}
	return a.high < b.high
}

// Compare compares two fractions: -1, 0 or 1.
func Compare(a, b api.Ratio) int {
	left, right := times(a.N, max(b.D, 1)), times(b.N, max(a.D, 1))
	switch {
	case left == right:
		return 0
	case left.below(right):
		return -1
	}
	return 1
}

// divisor is the greatest common divisor of two numbers that are not both 0.
func divisor(a, b int) int {
	for b != 0 {
		a, b = b, a%b
	}
	return max(a, -a)
}

func lowest(r api.Ratio) api.Ratio {
	d := divisor(r.N, r.D)
	return api.Ratio{N: r.N / d, D: r.D / d}
}

// squareFrom is the square of the distance of x from the edge from p to q.
func squareFrom(p, q, x api.Point) api.Ratio {
	edge, way := from(p, q), from(p, x)
	along, length := dot(edge, way), dot(edge, edge)
	switch {
	case along <= 0:
		return api.Ratio{N: dot(way, way), D: 1}
	case along >= length:
		back := from(q, x)
		return api.Ratio{N: dot(back, back), D: 1}
	}
	aside := cross(edge, way)
	return api.Ratio{N: aside * aside, D: length}
}
