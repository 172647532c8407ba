package gait

import (
	"math"
	"math/rand"
	"slices"
	"strings"
	"testing"

	"clinch/api"
)

var extremes = []int{math.MinInt, math.MinInt + 1, -100001, -100000, -1, 0, 1, 2, 3, 4, 5, 11, 12, 13, 15, 16, 17, 1000, 1001, 4095, 4096, 100000, 100001, 1000000000, 1000000001, math.MaxInt - 1, math.MaxInt}

func ints(l ...int) []int {
	return l
}

func sample() *rand.Rand {
	return rand.New(rand.NewSource(5))
}

// falls are falls from numbers: a time, a limb, a time, a limb and so on.
func falls(numbers ...int) []api.Fall {
	var l []api.Fall
	for i := 0; i+1 < len(numbers); i += 2 {
		l = append(l, api.Fall{At: numbers[i], Limb: numbers[i+1]})
	}
	return l
}

// beating are falls with a beat for each word, a digit for each limb, all at once and 100 milliseconds after the last beat.
func beating(beats string) []api.Fall {
	var l []api.Fall
	for i, word := range strings.Fields(beats) {
		for _, digit := range word {
			l = append(l, api.Fall{At: i * 100, Limb: int(digit - '0')})
		}
	}
	return l
}

// manyFalls are so many falls, of which the last is as late as may be.
func manyFalls(count int) []api.Fall {
	l := make([]api.Fall, count)
	for i := range l {
		l[i] = api.Fall{At: 1000000000 - (count-1-i)*2, Limb: i % 4}
	}
	return l
}

// someFalls are up to most falls, of which many are close to each other.
func someFalls(r *rand.Rand, most int) []api.Fall {
	at := r.Intn(3)
	step := []int{2, 5, 30, 1000, 1000000}[r.Intn(5)]
	var l []api.Fall
	for range r.Intn(most + 1) {
		f := api.Fall{At: at, Limb: r.Intn(4)}
		if !slices.Contains(l, f) {
			l = append(l, f)
		}
		at += r.Intn(step)
	}
	slices.SortFunc(l, func(f, g api.Fall) int { return slices.Compare(ints(f.At, f.Limb), ints(g.At, g.Limb)) })
	return l
}

// someLists are falls of all kinds, with the edges of their ranges.
func someLists(r *rand.Rand, count int) [][]api.Fall {
	list := [][]api.Fall{nil, {}, falls(0, 0), falls(1000000000, 3), falls(0, 0, 0, 1, 0, 2, 0, 3, 1000000000, 0, 1000000000, 1, 1000000000, 2, 1000000000, 3), manyFalls(2000)}
	for range count {
		list = append(list, someFalls(r, 20))
	}
	return list
}

// badFalls has falls for each way of not being valid.
func badFalls() [][]api.Fall {
	list := [][]api.Fall{manyFalls(2001), make([]api.Fall, 1000000), falls(5, 1, 4, 2), falls(5, 1, 5, 1), falls(5, 1, 5, 0), falls(0, 0, 5, 2, 5, 1), falls(7, 0, 8, 0, 0, 3)}
	for _, f := range falls(-1, 0, 1000000001, 0, 5, -1, 5, 4, math.MinInt, 0, math.MaxInt, 0, 5, math.MinInt, 5, math.MaxInt) {
		list = append(list, []api.Fall{f}, append(falls(0, 0, 3, 2), f), append([]api.Fall{f}, falls(6, 0)...))
	}
	return list
}

// noTies are not in the range of a tie.
var noTies = ints(-1, 1001, math.MinInt, math.MaxInt)

// noLimbs are not in the range of a limb.
var noLimbs = ints(-1, 4, math.MinInt, math.MaxInt)

// pain is regions and blocks.
type pain struct {
	regions int
	blocks  []int
}

// badPains has regions and blocks for each way of not being valid.
func badPains() []pain {
	list := []pain{{0, nil}, {-1, nil}, {13, nil}, {math.MinInt, nil}, {math.MaxInt, nil}, {64, ints(1)}, {0, ints(1)}, {13, ints(1)}, {4, slices.Repeat(ints(1), 17)}, {4, slices.Repeat(ints(1), 1000000)}}
	for _, block := range ints(0, -1, 16, math.MinInt, math.MaxInt) {
		list = append(list, pain{4, ints(block)}, pain{4, ints(1, 3, block)}, pain{4, append(slices.Repeat(ints(1), 15), block)})
	}
	return append(list, pain{1, ints(2)}, pain{12, ints(4096)}, pain{3, ints(8)})
}

// badGiven has lists of blocks, of three, for each way of naming wrong ones.
var badGiven = []struct {
	given []int
	want  api.Errno
}{
	{ints(3), api.ErrName},
	{ints(-1), api.ErrName},
	{ints(0, 1, 3), api.ErrName},
	{ints(math.MinInt), api.ErrName},
	{ints(2, math.MaxInt), api.ErrName},
	{ints(0, 0, 3), api.ErrName}, // the name comes before what is there twice
	{ints(3, 3), api.ErrName},
	{ints(0, 0), api.ErrDuplicate},
	{ints(2, 1, 0, 2), api.ErrDuplicate},
	{ints(0, 1, 2, 1), api.ErrDuplicate},
	{make([]int, 1000000), api.ErrDuplicate},
}

// somePain is up to so many regions and blocks.
func somePain(r *rand.Rand, regions, blocks int) pain {
	p := pain{regions: 1 + r.Intn(regions)}
	for range r.Intn(blocks + 1) {
		block := 1 + r.Intn(1<<p.regions-1)
		if r.Intn(2) == 0 {
			block &= 1 + r.Intn(1<<p.regions-1)
		}
		p.blocks = append(p.blocks, max(block, 1))
	}
	return p
}

// someGiven is some of so many blocks, each once, in any order.
func someGiven(r *rand.Rand, blocks int) []int {
	return r.Perm(blocks)[:r.Intn(blocks+1)]
}

func wantErrno(t *testing.T, what string, got, want api.Errno) {
	t.Helper()
	if got != want {
		t.Errorf("%s: errno %d, want %d", what, got, want)
	}
}

// wantList also holds a list that comes with an error against nothing.
func wantList[T comparable](t *testing.T, what string, got []T, e api.Errno, want []T, wantE api.Errno) {
	t.Helper()
	if e != wantE || !slices.Equal(got, want) {
		t.Errorf("%s: %v, errno %d, want %v, errno %d", what, got, e, want, wantE)
	}
}

func wantLists(t *testing.T, what string, got [][]int, e api.Errno, want [][]int, wantE api.Errno) {
	t.Helper()
	if e != wantE || !slices.EqualFunc(got, want, slices.Equal) {
		t.Errorf("%s: %v, errno %d, want %v, errno %d", what, got, e, want, wantE)
	}
}

func wantValue[T comparable](t *testing.T, what string, got T, e api.Errno, want T, wantE api.Errno) {
	t.Helper()
	if e != wantE || got != want {
		t.Errorf("%s: %v, errno %d, want %v, errno %d", what, got, e, want, wantE)
	}
}

// bruteBeats puts each fall into the beat of the one before it, or into a new one.
func bruteBeats(l []api.Fall, tie int) [][]api.Fall {
	var beats [][]api.Fall
	for _, f := range l {
		last := len(beats) - 1
		if last >= 0 && f.At-beats[last][0].At <= tie {
			beats[last] = append(beats[last], f)
		} else {
			beats = append(beats, []api.Fall{f})
		}
	}
	return beats
}

// bruteGait writes out each gait from each beat of it on.
func bruteGait(l []api.Fall, tie int) int {
	var words []string
	for _, beat := range bruteBeats(l, tie) {
		var limbs []int
		for _, f := range beat {
			limbs = append(limbs, f.Limb)
		}
		slices.Sort(limbs)
		word := ""
		for _, limb := range limbs { // a limb that is there twice makes a word of no gait
			word += string("0123"[limb])
		}
		words = append(words, word)
	}
	for gait, beats := range [...]string{"", "0 1 2 3", "03 12", "2 03 1", "0 12 3"} {
		round := strings.Fields(beats)
		for start := range round {
			endless := slices.Repeat(round, len(words)/len(round)+2)[start:]
			if len(words) >= len(round) && slices.Equal(words, endless[:len(words)]) {
				return gait
			}
		}
	}
	return 0
}

// bruteNumb is what is numb after some blocks.
func bruteNumb(blocks, given []int) map[int]bool {
	numb := map[int]bool{}
	for _, b := range given {
		for r := range 64 {
			if blocks[b]>>r&1 == 1 {
				numb[r] = true
			}
		}
	}
	return numb
}

// bruteFits says that a region fits answers: the horse is sound just where a block so far numbs the region.
func bruteFits(blocks []int, l []api.Answer, region int) bool {
	var given []int
	for _, a := range l {
		given = append(given, a.Block)
		if bruteNumb(blocks, given)[region] != a.Sound {
			return false
		}
	}
	return true
}

// bruteGood counts what each block numbs that none before it did.
func bruteGood(p pain, given []int, k int) bool {
	for i := range given {
		before, after := len(bruteNumb(p.blocks, given[:i])), len(bruteNumb(p.blocks, given[:i+1]))
		if after == before || after-before > k {
			return false
		}
	}
	return p.regions-len(bruteNumb(p.blocks, given)) <= k
}

// sequences gives the sequences of so many of some blocks, each once, in the order of lists.
func sequences(blocks, length int, begun []int, yield func([]int) bool) bool {
	if length == 0 {
		return yield(begun)
	}
	for b := range blocks {
		if !slices.Contains(begun, b) && !sequences(blocks, length-1, append(slices.Clone(begun), b), yield) {
			return false
		}
	}
	return true
}

// bruteShortest looks at all sequences, shorter ones first.
func bruteShortest(p pain, k int) (way []int, ok bool) {
	for length := 0; length <= len(p.blocks) && !ok; length++ {
		sequences(len(p.blocks), length, nil, func(given []int) bool {
			if bruteGood(p, given, k) {
				way, ok = given, true
			}
			return !ok
		})
	}
	return way, ok
}
