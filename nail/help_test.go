package nail

import (
	"math"
	"math/rand"
	"slices"
	"testing"

	"clinch/api"
)

var extremes = []int{math.MinInt, math.MinInt + 1, -1001, -17, -1, 0, 1, 2, 5, 15, 16, 17, 999, 1000, 1001, 10000, math.MaxInt - 1, math.MaxInt}

func nailing(least, most, gap, wall int) api.Nailing {
	return api.Nailing{Least: least, Most: most, Gap: gap, Wall: wall}
}

func ints(l ...int) []int {
	return l
}

// holding are slots with these Holds, which all take nails in walls of at least 100.
func holding(holds ...int) []api.Slot {
	var l []api.Slot
	for _, h := range holds {
		l = append(l, api.Slot{Wall: 100, Hold: h})
	}
	return l
}

// without are the slots of which some take no nail, each for another reason.
func without(l []api.Slot, indexes ...int) []api.Slot {
	l = slices.Clone(l)
	for _, i := range indexes {
		switch i % 4 {
		case 0:
			l[i].Wall = 0
		case 1:
			l[i].Behind = true
		case 2:
			l[i].Old = true
		case 3:
			l[i].Quick = true
		}
	}
	return l
}

func sample() *rand.Rand {
	return rand.New(rand.NewSource(4))
}

// someSlots are up to most slots, with few different Holds so that choices are often as good as others.
func someSlots(r *rand.Rand, most int) []api.Slot {
	highest := []int{0, 1, 3, 1000}[r.Intn(4)]
	lacks := r.Intn(4)
	var l []api.Slot
	for range r.Intn(most + 1) {
		flag := func() bool { return r.Intn(12) < lacks }
		l = append(l, api.Slot{Wall: 40 + r.Intn(40), Hold: r.Intn(highest + 1), Behind: flag(), Old: flag(), Quick: flag()})
	}
	return l
}

func someNailing(r *rand.Rand) api.Nailing {
	most := r.Intn(6)
	if r.Intn(8) == 0 {
		most = r.Intn(17)
	}
	return nailing(r.Intn(most+1), most, 1+r.Intn(4), 30+r.Intn(30))
}

// someLists are slots of all kinds, with the edges of their ranges.
func someLists(r *rand.Rand, count int) [][]api.Slot {
	list := [][]api.Slot{nil, {}, {{}}, make([]api.Slot, 16), holding(slices.Repeat(ints(1000), 16)...),
		{{Wall: 1000, Hold: 1000, Behind: true, Old: true, Quick: true}}}
	for range count {
		list = append(list, someSlots(r, 16))
	}
	return list
}

// badSlots has a slot for each way of not being valid.
func badSlots() []api.Slot {
	return []api.Slot{{Wall: -1}, {Wall: 1001}, {Hold: -1}, {Hold: 1001}, {Wall: 70, Hold: math.MinInt}, {Wall: 70, Hold: math.MaxInt}, {Wall: math.MinInt, Hold: 5}, {Wall: math.MaxInt, Hold: 5, Quick: true}}
}

// badLists has slots for each way of not being valid.
func badLists() [][]api.Slot {
	list := [][]api.Slot{make([]api.Slot, 17), make([]api.Slot, 1000000)}
	for _, s := range badSlots() {
		list = append(list, []api.Slot{s}, []api.Slot{{Wall: 70, Hold: 5}, s}, append(slices.Repeat([]api.Slot{{}}, 15), s))
	}
	return list
}

// badNailings has a nailing for each way of not being valid.
func badNailings() []api.Nailing {
	return []api.Nailing{
		{}, nailing(0, 0, 0, 0), nailing(0, 4, 17, 0), nailing(0, 4, -1, 0), nailing(0, 4, math.MinInt, 0), nailing(0, 4, math.MaxInt, 0),
		nailing(-1, 4, 1, 0), nailing(math.MinInt, 4, 1, 0), nailing(5, 4, 1, 0), nailing(math.MaxInt, 4, 1, 0),
		nailing(0, 17, 1, 0), nailing(17, 17, 1, 0), nailing(0, -1, 1, 0), nailing(-1, -1, 1, 0), nailing(0, math.MaxInt, 1, 0), nailing(math.MinInt, math.MinInt, 1, 0),
		nailing(0, 4, 1, -1), nailing(0, 4, 1, 1001), nailing(0, 4, 1, math.MinInt), nailing(0, 4, 1, math.MaxInt),
	}
}

// wrongs gives each nailing and slots of which one or both are not valid.
func wrongs(yield func(api.Nailing, []api.Slot) bool) {
	goodN, good := nailing(0, 2, 1, 50), holding(5, 9, 5, 4)
	for _, n := range badNailings() {
		if !yield(n, good) || !yield(n, badLists()[5]) {
			return
		}
	}
	for _, l := range badLists() {
		if !yield(goodN, l) {
			return
		}
	}
}

func wantErrno(t *testing.T, what string, got, want api.Errno) {
	t.Helper()
	if got != want {
		t.Errorf("%s: errno %d, want %d", what, got, want)
	}
}

// wantList also holds a list that comes with an error against nothing.
func wantList[T comparable](t *testing.T, what string, got []T, e api.Errno, want []T, wantE api.Errno) {
	t.Helper()
	if e != wantE || !slices.Equal(got, want) {
		t.Errorf("%s: %v, errno %d, want %v, errno %d", what, got, e, want, wantE)
	}
}

func wantValue[T comparable](t *testing.T, what string, got T, e api.Errno, want T, wantE api.Errno) {
	t.Helper()
	if e != wantE || got != want {
		t.Errorf("%s: %v, errno %d, want %v, errno %d", what, got, e, want, wantE)
	}
}

func bruteTakes(n api.Nailing, s api.Slot) bool {
	return !(s.Wall < n.Wall || s.Behind || s.Old || s.Quick)
}

// bruteRights looks at all sets of slots, and sorts the right choices.
func bruteRights(n api.Nailing, l []api.Slot) [][]int {
	var rights [][]int
	for set := range 1 << len(l) {
		choice, ok := []int{}, true
		for i, s := range l {
			if set>>i&1 == 0 {
				continue
			}
			if !bruteTakes(n, s) || len(choice) > 0 && i-choice[len(choice)-1] < n.Gap {
				ok = false
			}
			choice = append(choice, i)
		}
		if ok && len(choice) >= n.Least && len(choice) <= n.Most {
			rights = append(rights, choice)
		}
	}
	slices.SortFunc(rights, slices.Compare[[]int])
	return rights
}

func bruteHold(l []api.Slot, choice []int) int {
	sum := 0
	for _, i := range choice {
		sum += l[i].Hold
	}
	return sum
}

// bruteBest is the first of the right choices, in their order, than which none holds more.
func bruteBest(l []api.Slot, rights [][]int) (best []int, hold int) {
	hold = -1
	for _, c := range rights {
		if h := bruteHold(l, c); h > hold {
			best, hold = c, h
		}
	}
	return best, hold
}

// brutePair looks at all pairs of right choices in their order.
func brutePair(a, b []api.Slot, first, second [][]int, even int) (x, y []int, hold int) {
	hold = -1
	for _, c := range first {
		for _, d := range second {
			if h := bruteHold(a, c) + bruteHold(b, d); h > hold && max(len(c)-len(d), len(d)-len(c)) <= even {
				x, y, hold = c, d, h
			}
		}
	}
	return x, y, hold
}
