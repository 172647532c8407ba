package gait

import (
	"math"
	"slices"
	"testing"

	"clinch/api"
)

// 5.2

var badDepths = []struct{ left, right []int }{
	{nil, nil},
	{ints(1), nil},
	{nil, ints(1)},
	{ints(1, 2), ints(1)},
	{ints(1), ints(1, 2)},
	{make([]int, 1001), make([]int, 1001)},
	{make([]int, 1000), make([]int, 1001)},
	{make([]int, 1000000), make([]int, 1000000)},
	{ints(100001), ints(0)},
	{ints(0), ints(100001)},
	{ints(0, -100001), ints(0, 0)},
	{ints(0, 0), ints(0, -100001)},
	{ints(0, math.MinInt), ints(0, math.MaxInt)},
	{ints(math.MaxInt), ints(math.MaxInt)},
}

var badSteps = [][]int{nil, ints(0), ints(-1), ints(100001), ints(5, 5), ints(7, 5), ints(1, 2, 2), ints(1, 3, 2), ints(1, 2, 3, 4, 5, 6), ints(0, 5), ints(5, 100001), ints(math.MinInt, 5), ints(5, math.MaxInt), ints(math.MaxInt, 1), make([]int, 1000000)}

var noLeasts = ints(0, -1, 100001, math.MinInt, math.MaxInt)

func TestDifference(t *testing.T) {
	for _, c := range []struct {
		left, right []int
		want        int
	}{
		{ints(5), ints(3), 2},
		{ints(3), ints(5), -2},
		{ints(10, 20, 30), ints(1, 2, 3), 54},
		{ints(-10, 20, 0), ints(10, -20, 0), 20},
		{ints(7, 9), ints(9, 7), 0},
		{slices.Repeat(ints(100000), 1000), slices.Repeat(ints(-100000), 1000), 200000000},
		{slices.Repeat(ints(-100000), 1000), slices.Repeat(ints(100000), 1000), -200000000},
	} {
		got, e := Difference(c.left, c.right)
		wantValue(t, "Difference", got, e, c.want, api.OK)
	}
}

func TestSide(t *testing.T) {
	for _, c := range []struct {
		what        string
		left, right []int
		least, want int
	}{
		{"nods less on the left", ints(5), ints(15), 10, -1},
		{"hardly less on the left", ints(6), ints(15), 10, 0},
		{"nods less on the right", ints(15), ints(5), 10, 1},
		{"hardly less on the right", ints(15), ints(6), 10, 0},
		{"even", ints(15, 5), ints(5, 15), 1, 0},
		{"just as much on the left over two strides", ints(0, 1), ints(11, 10), 10, -1},
		{"too little on the left over two strides", ints(0, 2), ints(11, 10), 10, 0},
		{"just as much on the right over two strides", ints(11, 10), ints(0, 1), 10, 1},
		{"too little on the right over two strides", ints(11, 10), ints(0, 2), 10, 0},
		{"the least least", ints(1), ints(0), 1, 1},
		{"the greatest least", ints(100000), ints(0), 100000, 1},
		{"less than the greatest least", ints(0), ints(99999), 100000, 0},
		{"numbers below 0", ints(-15), ints(-5), 10, -1},
		{"as many as may be", slices.Repeat(ints(100000), 1000), slices.Repeat(ints(0), 1000), 100000, 1},
	} {
		side, e := Side(c.left, c.right, c.least)
		wantValue(t, c.what, side, e, c.want, api.OK)
	}
}

func TestGrade(t *testing.T) {
	steps := ints(10, 20, 30)
	for _, c := range []struct {
		what        string
		left, right []int
		least       int
		steps       []int
		want        int
	}{
		{"the first step on the left", ints(5), ints(15), 10, steps, 1},
		{"the first step on the right", ints(15), ints(5), 10, steps, 1},
		{"not quite the second step", ints(24), ints(5), 10, steps, 1},
		{"just the second step", ints(25), ints(5), 10, steps, 2},
		{"just the second step on the left", ints(5), ints(25), 10, steps, 2},
		{"all steps", ints(0), ints(1000), 10, steps, 3},
		{"on none", ints(25), ints(5), 21, steps, 0},
		{"on none, the other way", ints(5), ints(25), 21, steps, 0},
		{"lame, but no step", ints(9), ints(0), 5, steps, 0},
		{"nothing is rounded down", ints(20, 20), ints(0, 0), 5, steps, 2},
		{"nothing is rounded up", ints(20, 19), ints(0, 0), 5, steps, 1},
		{"nothing is rounded up on the left", ints(0, 0), ints(20, 19), 5, steps, 1},
		{"a third more", ints(20, 20, 21), ints(0, 0, 0), 5, steps, 2},
		{"a step", ints(9), ints(0), 5, ints(9), 1},
		{"five steps", ints(4), ints(0), 1, ints(1, 2, 3, 4, 5), 4},
		{"the edges of the steps", ints(100000), ints(0), 1, ints(1, 100000), 2},
		{"as many as may be", slices.Repeat(ints(-100000), 1000), slices.Repeat(ints(100000), 1000), 100000, ints(1, 2, 3, 99999, 100000), 5},
	} {
		grade, e := Grade(c.left, c.right, c.least, c.steps)
		wantValue(t, c.what, grade, e, c.want, api.OK)
	}
}

func TestLamenessErrors(t *testing.T) {
	check := func(left, right []int, least int, steps []int) {
		t.Helper()
		grade, e := Grade(left, right, least, steps)
		wantValue(t, "Grade", grade, e, 0, api.ErrRange)
	}
	for _, c := range badDepths {
		difference, e := Difference(c.left, c.right)
		wantValue(t, "Difference", difference, e, 0, api.ErrRange)
		side, e := Side(c.left, c.right, 10)
		wantValue(t, "Side", side, e, 0, api.ErrRange)
		check(c.left, c.right, 10, ints(10, 20))
	}
	for _, least := range noLeasts {
		side, e := Side(ints(100000), ints(-100000), least)
		wantValue(t, "Side", side, e, 0, api.ErrRange)
		check(ints(100000), ints(-100000), least, ints(10, 20))
	}
	for _, steps := range badSteps {
		check(ints(500), ints(0), 10, steps)
		check(ints(0), ints(500), 10, steps)
		check(ints(0), ints(0), 10, steps) // also where it is lame on none
	}
}

// P5.2

func TestDifferenceChangesItsSign(t *testing.T) {
	r := sample()
	for range 1000 {
		left, right := make([]int, 1+r.Intn(6)), []int(nil)
		for i := range left {
			left[i] = r.Intn(200001) - 100000
			right = append(right, r.Intn(200001)-100000)
		}
		one, e := Difference(left, right)
		wantErrno(t, "Difference", e, api.OK)
		other, e := Difference(right, left)
		wantValue(t, "Difference of the lists exchanged", other, e, -one, api.OK)
		least := 1 + r.Intn(50000)
		side, _ := Side(left, right, least)
		otherSide, e := Side(right, left, least)
		wantValue(t, "Side of the lists exchanged", otherSide, e, -side, api.OK)
	}
}

// P5.5

func TestANumberAddedToBothListsChangesNothing(t *testing.T) {
	r := sample()
	lame := 0
	for range 2000 {
		left, right := make([]int, 1+r.Intn(6)), []int(nil)
		for i := range left {
			left[i] = r.Intn(201) - 100
			right = append(right, r.Intn(201)-100)
		}
		least, steps := 1+r.Intn(60), ints(20, 40, 60, 80)
		side, _ := Side(left, right, least)
		grade, _ := Grade(left, right, least, steps)
		more := r.Intn(199801) - 99900
		for i := range left {
			left[i] += more
			right[i] += more
		}
		got, e := Side(left, right, least)
		wantValue(t, "Side", got, e, side, api.OK)
		got, e = Grade(left, right, least, steps)
		wantValue(t, "Grade", got, e, grade, api.OK)
		if grade > 0 {
			lame++
		}
	}
	if lame < 100 {
		t.Error("too few horses were lame:", lame)
	}
}
