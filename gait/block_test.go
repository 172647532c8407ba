package gait

import (
	"math"
	"slices"
	"strconv"
	"testing"

	"clinch/api"
)

// 5.3

func TestValidBlocks(t *testing.T) {
	for _, p := range []pain{{1, nil}, {1, ints(1)}, {12, nil}, {12, ints(4095, 1, 2048)}, {4, ints(1, 3, 7)}, {4, ints(15, 15, 15)}, {3, slices.Repeat(ints(7), 16)}} {
		if !ValidBlocks(p.regions, p.blocks) {
			t.Error("not valid:", p)
		}
	}
	for _, p := range badPains() {
		if ValidBlocks(p.regions, p.blocks) {
			t.Error("valid:", p.regions, p.blocks[:min(len(p.blocks), 20)])
		}
	}
}

func TestNumb(t *testing.T) {
	for _, c := range []struct {
		p     pain
		given []int
		want  int
	}{
		{pain{4, ints(1, 3, 7)}, nil, 0},
		{pain{4, ints(1, 3, 7)}, ints(0), 1},
		{pain{4, ints(1, 3, 7)}, ints(1, 0), 3},
		{pain{4, ints(1, 3, 7)}, ints(0, 1, 2), 7},
		{pain{4, ints(5, 9, 2)}, ints(1, 0), 13},
		{pain{4, ints(5, 5)}, ints(1, 0), 5},
		{pain{1, nil}, nil, 0},
		{pain{12, ints(4095)}, ints(0), 4095},
	} {
		set, e := Numb(c.p.regions, c.p.blocks, c.given)
		wantValue(t, "Numb", set, e, c.want, api.OK)
	}
}

// said are answers of blocks that do not make the horse sound, and of one at last that does, if there is one.
func said(sound int, blocks ...int) []api.Answer {
	var l []api.Answer
	for _, b := range blocks {
		l = append(l, api.Answer{Block: b})
	}
	if sound >= 0 {
		l = append(l, api.Answer{Block: sound, Sound: true})
	}
	return l
}

func TestAnswers(t *testing.T) {
	p := pain{4, ints(1, 3, 7)}
	for _, c := range []struct {
		what   string
		p      pain
		given  []int
		region int
		want   []api.Answer
	}{
		{"the first block", p, ints(0, 1, 2), 0, said(0)},
		{"the second one", p, ints(0, 1, 2), 1, said(1, 0)},
		{"the last one", p, ints(0, 1, 2), 2, said(2, 0, 1)},
		{"none", p, ints(0, 1, 2), 3, said(-1, 0, 1, 2)},
		{"the rest is not told", p, ints(2, 1, 0), 1, said(2)},
		{"blocks by their indexes", p, ints(2, 0), 3, said(-1, 2, 0)},
		{"no block", p, nil, 2, nil},
		{"there are no blocks", pain{1, nil}, nil, 0, nil},
		{"equal blocks", pain{2, ints(1, 1)}, ints(1, 0), 1, said(-1, 1, 0)},
		{"the last of twelve regions", pain{12, ints(2047, 2048)}, ints(0, 1), 11, said(1, 0)},
	} {
		l, e := Answers(c.p.regions, c.p.blocks, c.given, c.region)
		wantList(t, c.what, l, e, c.want, api.OK)
	}
}

func TestPossible(t *testing.T) {
	p := pain{4, ints(1, 3, 7)}
	for _, c := range []struct {
		what string
		p    pain
		l    []api.Answer
		want []int
		e    api.Errno
	}{
		{"no answers", p, nil, ints(0, 1, 2, 3), api.OK},
		{"no answers of an only region", pain{1, nil}, nil, ints(0), api.OK},
		{"sound at once", p, said(2), ints(0, 1, 2), api.OK},
		{"sound later", p, said(2, 0), ints(1, 2), api.OK},
		{"never sound", p, said(-1, 0, 1), ints(2, 3), api.OK},
		{"never sound behind all", p, said(-1, 0, 1, 2), ints(3), api.OK},
		{"sound by a block that numbs nothing new", p, said(0, 1), nil, api.ErrNone},
		{"never sound although all is numb", pain{2, ints(3)}, said(-1, 0), nil, api.ErrNone},
		{"never sound although all is numb by two", pain{2, ints(1, 2)}, said(-1, 1, 0), nil, api.ErrNone},
		{"sound by an equal block", pain{2, ints(1, 1)}, said(1, 0), nil, api.ErrNone},
		{"sound before the last one", p, []api.Answer{{Block: 0, Sound: true}, {Block: 1}}, nil, api.ErrState},
		{"sound twice", p, []api.Answer{{Block: 0, Sound: true}, {Block: 1, Sound: true}}, nil, api.ErrState},
		{"sound in the middle", p, []api.Answer{{Block: 0}, {Block: 1, Sound: true}, {Block: 2}}, nil, api.ErrState},
		{"sound too early, and no region", p, []api.Answer{{Block: 1}, {Block: 0, Sound: true}, {Block: 2}}, nil, api.ErrState},
		{"a name before the state", p, []api.Answer{{Block: 0, Sound: true}, {Block: 3}}, nil, api.ErrName},
		{"a block twice before the state", p, []api.Answer{{Block: 0, Sound: true}, {Block: 0}}, nil, api.ErrDuplicate},
		{"a block twice before no region", p, []api.Answer{{Block: 0}, {Block: 0, Sound: true}}, nil, api.ErrDuplicate},
		{"a name, there being no blocks", pain{1, nil}, said(0), nil, api.ErrName},
	} {
		l, e := Possible(c.p.regions, c.p.blocks, c.l)
		wantList(t, c.what, l, e, c.want, c.e)
	}
}

func TestPossibleAgainstBrute(t *testing.T) {
	r := sample()
	count := map[api.Errno]int{}
	for range 5000 {
		p := somePain(r, 6, 5)
		l := said(-1, someGiven(r, len(p.blocks))...)
		if len(l) > 0 && r.Intn(3) > 0 {
			l[len(l)-1].Sound = true
		}
		var want []int
		for region := range p.regions {
			if bruteFits(p.blocks, l, region) {
				want = append(want, region)
			}
		}
		wantE := api.OK
		if want == nil {
			wantE = api.ErrNone
		}
		got, e := Possible(p.regions, p.blocks, l)
		wantList(t, "Possible", got, e, want, wantE)
		count[e]++
	}
	if count[api.OK] < 500 || count[api.ErrNone] < 500 {
		t.Error("too few of a kind:", count)
	}
}

// 5.4

func TestClasses(t *testing.T) {
	p := pain{4, ints(1, 3, 7)}
	for _, c := range []struct {
		what  string
		p     pain
		given []int
		want  [][]int
	}{
		{"no block", p, nil, [][]int{{0, 1, 2, 3}}},
		{"all blocks", p, ints(0, 1, 2), [][]int{{0}, {1}, {2}, {3}}},
		{"blocks that numb nothing new", p, ints(2, 0, 1), [][]int{{0, 1, 2}, {}, {}, {3}}},
		{"nothing is left", pain{3, ints(4, 3)}, ints(0, 1), [][]int{{2}, {0, 1}, {}}},
		{"in the order of the blocks", pain{3, ints(4, 3)}, ints(1, 0), [][]int{{0, 1}, {2}, {}}},
		{"what is numb already", pain{4, ints(5, 7, 12)}, ints(0, 2, 1), [][]int{{0, 2}, {3}, {1}, {}}},
		{"equal blocks", pain{1, ints(1, 1)}, ints(1, 0), [][]int{{0}, {}, {}}},
		{"an only region", pain{1, nil}, nil, [][]int{{0}}},
		{"twelve regions", pain{12, ints(2049)}, ints(0), [][]int{{0, 11}, {1, 2, 3, 4, 5, 6, 7, 8, 9, 10}}},
	} {
		classes, e := Classes(c.p.regions, c.p.blocks, c.given)
		wantLists(t, c.what, classes, e, c.want, api.OK)
	}
}

func TestBlockErrors(t *testing.T) {
	check := func(p pain, given []int, region int, answers []api.Answer, want, wantOfAnswers api.Errno) {
		t.Helper()
		set, e := Numb(p.regions, p.blocks, given)
		wantValue(t, "Numb", set, e, 0, want)
		l, e := Answers(p.regions, p.blocks, given, region)
		wantList(t, "Answers", l, e, nil, wantOfAnswers)
		possible, e := Possible(p.regions, p.blocks, answers)
		wantList(t, "Possible", possible, e, nil, want)
		classes, e := Classes(p.regions, p.blocks, given)
		wantLists(t, "Classes", classes, e, nil, want)
	}
	for _, p := range badPains() {
		check(p, nil, 0, nil, api.ErrInvalid, api.ErrInvalid)
		check(p, ints(5, 5), -1, said(0, 20), api.ErrInvalid, api.ErrInvalid)
	}
	p := pain{4, ints(1, 3, 7)}
	for _, c := range badGiven {
		answers := said(-1, c.given...)
		check(p, c.given, 0, answers, c.want, c.want)
		check(p, c.given, 4, answers, c.want, api.ErrRange)
		answers[0].Sound = true
		check(p, c.given, 3, answers, c.want, c.want)
	}
	for _, region := range ints(-1, 4, 5, 12, math.MinInt, math.MaxInt) {
		l, e := Answers(4, p.blocks, ints(0, 1), region)
		wantList(t, "Answers", l, e, nil, api.ErrRange)
	}
	l, e := Answers(4, p.blocks, ints(2, 0, 0), 1) // also behind the block after which it goes sound
	wantList(t, "Answers", l, e, nil, api.ErrDuplicate)
}

// P5.3

func TestPossibleOfAnswersIsTheClass(t *testing.T) {
	r := sample()
	for range 3000 {
		p := somePain(r, 12, 16)
		given := someGiven(r, len(p.blocks))
		classes, e := Classes(p.regions, p.blocks, given)
		wantErrno(t, "Classes", e, api.OK)
		if len(classes) != len(given)+1 {
			t.Fatal("the number of Classes is", len(classes), "of", given)
		}
		told := slices.Concat(classes...)
		slices.Sort(told)
		if len(told) != p.regions || told[0] != 0 || told[len(told)-1] != p.regions-1 || len(slices.Compact(told)) != p.regions {
			t.Fatal("Classes of", p, given, "are", classes)
		}
		for region := range p.regions {
			answers, e := Answers(p.regions, p.blocks, given, region)
			wantErrno(t, "Answers", e, api.OK)
			if !bruteFits(p.blocks, answers, region) {
				t.Fatal("Answers of", p, given, region, "are", answers)
			}
			for i, a := range answers {
				if a.Block != given[i] || a.Sound && i < len(answers)-1 || !a.Sound && i == len(answers)-1 && i < len(given)-1 {
					t.Fatal("Answers of", p, given, region, "are", answers)
				}
			}
			class := slices.IndexFunc(classes, func(l []int) bool { return slices.Contains(l, region) })
			possible, e := Possible(p.regions, p.blocks, answers)
			wantList(t, "Possible of Answers in the region "+strconv.Itoa(region), possible, e, classes[class], api.OK)
		}
	}
}
