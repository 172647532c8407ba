package gait

import (
	"math"
	"slices"
	"strconv"
	"testing"

	"clinch/api"
)

// 5.1

func TestValid(t *testing.T) {
	for _, l := range append(someLists(sample(), 200), falls(5, 1, 5, 2), falls(5, 3, 6, 0), falls(0, 0, 0, 3, 1, 0)) {
		if !Valid(l) {
			t.Error("not valid:", l)
		}
	}
	for _, l := range badFalls() {
		if Valid(l) {
			t.Error("valid:", l[:min(len(l), 20)])
		}
	}
}

func TestBeats(t *testing.T) {
	for _, c := range []struct {
		what string
		l    []api.Fall
		tie  int
		want [][]int
	}{
		{"two beats", falls(0, 0, 5, 3, 300, 1, 304, 2), 20, [][]int{{0, 3}, {1, 2}}},
		{"no falls", nil, 20, nil},
		{"a fall", falls(7, 2), 0, [][]int{{2}}},
		{"the limbs in ascending order", falls(0, 3, 5, 0, 300, 2, 304, 1), 20, [][]int{{0, 3}, {1, 2}}},
		{"just the tie", falls(0, 0, 20, 3), 20, [][]int{{0, 3}}},
		{"more than the tie", falls(0, 0, 21, 3), 20, [][]int{{0}, {3}}},
		{"at once", falls(5, 1, 5, 2, 6, 0), 0, [][]int{{1, 2}, {0}}},
		{"from the first fall, not from the last", falls(0, 0, 15, 1, 30, 2, 45, 3), 20, [][]int{{0, 1}, {2, 3}}},
		{"from each first fall anew", falls(0, 0, 11, 1, 21, 2, 22, 3), 10, [][]int{{0}, {1, 2}, {3}}},
		{"a limb twice is told once", falls(0, 1, 5, 0, 6, 1, 9, 0), 20, [][]int{{0, 1}}},
		{"all four", falls(0, 3, 1, 2, 2, 1, 3, 0), 3, [][]int{{0, 1, 2, 3}}},
		{"the greatest tie", falls(0, 1, 1000, 2, 1001, 3), 1000, [][]int{{1, 2}, {3}}},
		{"the latest falls", falls(999999999, 1, 1000000000, 2), 1000, [][]int{{1, 2}}},
	} {
		beats, e := Beats(c.l, c.tie)
		wantLists(t, c.what, beats, e, c.want, api.OK)
	}
}

func TestBeatsAgainstBrute(t *testing.T) {
	r := sample()
	for _, l := range someLists(r, 3000) {
		tie := []int{0, 1, 2, 10, 50, 1000}[r.Intn(6)]
		var want [][]int
		for _, beat := range bruteBeats(l, tie) {
			var limbs []int
			for limb := range 4 {
				if slices.ContainsFunc(beat, func(f api.Fall) bool { return f.Limb == limb }) {
					limbs = append(limbs, limb)
				}
			}
			want = append(want, limbs)
		}
		beats, e := Beats(l, tie)
		wantLists(t, "Beats", beats, e, want, api.OK)
	}
}

func TestGait(t *testing.T) {
	for _, c := range []struct {
		beats string
		want  int
	}{
		{"", api.GNone},
		{"0 1 2 3", api.GWalk},
		{"1 2 3 0", api.GWalk},
		{"3 0 1 2", api.GWalk},
		{"2 3 0 1 2 3", api.GWalk},
		{"0 1 2", api.GNone}, // too few beats
		{"0 1 2 3 1", api.GNone},
		{"0 1 2 3 0 2", api.GNone},
		{"0 2 1 3", api.GNone},
		{"3 2 1 0", api.GNone},
		{"0 0 0 0", api.GNone},
		{"03 12", api.GTrot},
		{"12 03", api.GTrot},
		{"12 03 12", api.GTrot},
		{"03 12 03 12 03 12 03", api.GTrot},
		{"03", api.GNone},
		{"03 03", api.GNone},
		{"03 12 12", api.GNone},
		{"02 13", api.GNone},
		{"01 23", api.GNone},
		{"012 3", api.GNone},
		{"0123 0123", api.GNone},
		{"2 03 1", api.GLeft},
		{"03 1 2", api.GLeft},
		{"1 2 03", api.GLeft},
		{"1 2 03 1 2", api.GLeft},
		{"1 03 2", api.GNone},
		{"2 03", api.GNone},
		{"2 03 1 03", api.GNone},
		{"2 03 1 2 03 1 1", api.GNone},
		{"0 12 3", api.GRight},
		{"12 3 0", api.GRight},
		{"3 0 12", api.GRight},
		{"3 0 12 3 0 12 3", api.GRight},
		{"0 3 12", api.GNone},
		{"12 3", api.GNone},
		{"0 12 3 2 03 1", api.GNone},
		{"2 03 1 0 12 3", api.GNone},
		{"03 12 0 12 3", api.GNone},
		{"0 1 2 3 03 12", api.GNone},
	} {
		gait, e := Gait(beating(c.beats), 20)
		wantValue(t, "Gait of "+c.beats, gait, e, c.want, api.OK)
	}
}

func TestGaitTakesTheTie(t *testing.T) {
	l := falls(0, 0, 5, 3, 300, 1, 304, 2)
	twice := falls(0, 0, 5, 3, 9, 0, 300, 1, 304, 2)
	for _, c := range []struct {
		what      string
		l         []api.Fall
		tie, want int
	}{
		{"a trot", l, 20, api.GTrot},
		{"just the tie", l, 5, api.GTrot},
		{"less than the tie of a beat", l, 4, api.GNone},
		{"no tie", falls(0, 0, 5, 1, 300, 2, 304, 3), 0, api.GWalk},
		{"without a tie no trot", l, 0, api.GNone},
		{"one beat of all", l, 1000, api.GNone},
		{"a limb twice in the first beat", twice, 20, api.GNone},
		{"a limb twice in the last beat", falls(0, 0, 5, 3, 300, 1, 304, 2, 305, 1), 20, api.GNone},
		{"a limb twice in a beat behind a whole gait", append(beating("03 12 03"), falls(300, 1, 301, 2, 302, 2)...), 20, api.GNone},
		{"a limb twice in a beat between whole gaits", append(beating("03 12"), falls(200, 0, 201, 0, 202, 3, 300, 1, 300, 2, 400, 0, 400, 3)...), 20, api.GNone},
	} {
		gait, e := Gait(c.l, c.tie)
		wantValue(t, c.what, gait, e, c.want, api.OK)
	}
}

func TestGaitAgainstBrute(t *testing.T) {
	r := sample()
	found := map[int]int{}
	for range 20000 {
		rounds := []string{"0 1 2 3 ", "03 12 ", "2 03 1 ", "0 12 3 "}
		text := ""
		for range 1 + r.Intn(3) {
			text += rounds[r.Intn(4)]
			if r.Intn(2) == 0 {
				text += text
			}
		}
		l := beating(text)
		for i := range l {
			l[i].At += r.Intn(3)
		}
		slices.SortFunc(l, inOrder)
		from := r.Intn(min(len(l), 5))
		l = l[from : len(l)-r.Intn(min(len(l)-from, 5))]
		if r.Intn(4) == 0 {
			l[r.Intn(len(l))].Limb = r.Intn(4)
		}
		if !Valid(l) {
			continue
		}
		gait, e := Gait(l, 2+r.Intn(20))
		wantValue(t, "Gait", gait, e, bruteGait(l, 20), api.OK)
		found[gait]++
	}
	for gait := range 5 {
		if found[gait] < 100 {
			t.Error("too few falls had the gait", gait, found[gait])
		}
	}
}

func TestStrides(t *testing.T) {
	l := falls(0, 0, 0, 2, 250, 2, 500, 0, 501, 1, 990, 0, 1000, 2)
	for limb, want := range [][]int{{500, 490}, nil, {250, 750}, nil} {
		times, e := Strides(l, limb)
		wantList(t, "Strides of "+strconv.Itoa(limb), times, e, want, api.OK)
		times, e = Strides(nil, limb)
		wantList(t, "Strides of no falls", times, e, nil, api.OK)
	}
	times, e := Strides(falls(0, 3, 1000000000, 3), 3)
	wantList(t, "the longest stride", times, e, ints(1000000000), api.OK)
}

func TestEven(t *testing.T) {
	l := falls(0, 0, 0, 2, 250, 2, 500, 0, 501, 1, 990, 0, 1000, 2, 1510, 0, 2000, 3, 2100, 3)
	for _, c := range []struct {
		what         string
		limb, within int
		want         bool
	}{
		{"less than the strides differ", 0, 29, false}, // 500, 490 and 520
		{"as much as the strides differ", 0, 30, true},
		{"nothing", 0, 0, false},
		{"the greatest number", 0, 1000000000, true},
		{"two strides", 2, 499, false},
		{"two strides just within", 2, 500, true},
		{"a single landing", 1, 0, true},
		{"a single stride", 3, 0, true},
	} {
		even, e := Even(l, c.limb, c.within)
		wantValue(t, c.what, even, e, c.want, api.OK)
	}
	even, e := Even(nil, 3, 0)
	wantValue(t, "no landing", even, e, true, api.OK)
	even, e = Even(falls(0, 1, 10, 1, 20, 1, 30, 1), 1, 0)
	wantValue(t, "equal strides", even, e, true, api.OK)
	even, e = Even(falls(0, 1, 1000, 1, 1010, 1, 1020, 1), 1, 989)
	wantValue(t, "the first stride is longest", even, e, false, api.OK)
}

func TestSwapped(t *testing.T) {
	for _, c := range []struct{ l, want []api.Fall }{
		{nil, nil},
		{falls(1, 0, 2, 1, 3, 2, 4, 3), falls(1, 2, 2, 3, 3, 0, 4, 1)},
		{falls(7, 0, 7, 1, 7, 2, 7, 3), falls(7, 0, 7, 1, 7, 2, 7, 3)},
		{falls(7, 1, 7, 2, 9, 0, 9, 3), falls(7, 0, 7, 3, 9, 1, 9, 2)},
		{falls(7, 0, 7, 2, 7, 3, 8, 1), falls(7, 0, 7, 1, 7, 2, 8, 3)},
	} {
		l, e := Swapped(c.l)
		wantList(t, "Swapped", l, e, c.want, api.OK)
	}
}

func TestWord(t *testing.T) {
	for gait, want := range []string{api.GNone: "none", api.GWalk: "walk", api.GTrot: "trot", api.GLeft: "left", api.GRight: "right"} {
		if got := Word(gait); got != want {
			t.Errorf("the word of %d is %q", gait, got)
		}
	}
	for _, gait := range ints(-1, 5, 6, math.MinInt, math.MaxInt) {
		if got := Word(gait); got != "" {
			t.Errorf("the word of %d is %q", gait, got)
		}
	}
}

func TestFallErrors(t *testing.T) {
	check := func(l []api.Fall, tie, limb, within int, want api.Errno) {
		t.Helper()
		beats, e := Beats(l, tie)
		wantLists(t, "Beats", beats, e, nil, want)
		gait, e := Gait(l, tie)
		wantValue(t, "Gait", gait, e, 0, want)
		times, e := Strides(l, limb)
		wantList(t, "Strides", times, e, nil, want)
		even, e := Even(l, limb, within)
		wantValue(t, "Even", even, e, false, want)
	}
	for _, l := range badFalls() {
		check(l, 20, 0, 5, api.ErrInvalid)
		check(l, -1, -1, -1, api.ErrInvalid)
		swapped, e := Swapped(l)
		wantList(t, "Swapped", swapped, e, nil, api.ErrInvalid)
	}
	for _, l := range [][]api.Fall{nil, beating("03 12 03 12")} {
		for i, tie := range noTies {
			check(l, tie, noLimbs[i], 5, api.ErrRange)
		}
		for _, within := range ints(-1, 1000000001, math.MinInt, math.MaxInt) {
			even, e := Even(l, 0, within)
			wantValue(t, "Even", even, e, false, api.ErrRange)
		}
	}
}

// P5.2

func TestSwappedTwiceIsNothing(t *testing.T) {
	exchanged := [...]int{api.GNone: api.GNone, api.GWalk: api.GWalk, api.GTrot: api.GTrot, api.GLeft: api.GRight, api.GRight: api.GLeft}
	lists := someLists(sample(), 1000)
	for _, beats := range []string{"0 1 2 3 0", "03 12 03", "2 03 1 2", "03 1 2 03", "0 12 3 0", "3 0 12"} {
		lists = append(lists, beating(beats))
	}
	for _, l := range lists {
		swapped, e := Swapped(l)
		if e != api.OK || !Valid(swapped) {
			t.Fatal("Swapped of", l, "is", swapped, "errno", e)
		}
		for _, f := range l {
			if !slices.Contains(swapped, api.Fall{At: f.At, Limb: ints(2, 3, 0, 1)[f.Limb]}) {
				t.Fatal(f, "is not exchanged in", swapped)
			}
		}
		again, e := Swapped(swapped)
		wantList(t, "Swapped twice", again, e, l, api.OK)
		before, _ := Gait(l, 20)
		after, e := Gait(swapped, 20)
		wantValue(t, "Gait of Swapped", after, e, exchanged[before], api.OK)
	}
}

// P5.5

func TestStridesAddUp(t *testing.T) {
	for _, l := range someLists(sample(), 1000) {
		for limb := range 4 {
			var landings []int
			for _, f := range l {
				if f.Limb == limb {
					landings = append(landings, f.At)
				}
			}
			times, e := Strides(l, limb)
			sum := 0
			for _, n := range times {
				sum += n
			}
			want := 0
			if len(landings) > 0 {
				want = landings[len(landings)-1] - landings[0]
			}
			wantValue(t, "the sum of Strides", sum, e, want, api.OK)
			wantValue(t, "the number of Strides", len(times), e, max(len(landings)-1, 0), api.OK)
			if len(times) > 0 {
				spread := slices.Max(times) - slices.Min(times)
				even, e := Even(l, limb, spread)
				wantValue(t, "Even", even, e, true, api.OK)
				if spread > 0 {
					even, e = Even(l, limb, spread-1)
					wantValue(t, "Even of less", even, e, false, api.OK)
				}
			}
		}
	}
}
