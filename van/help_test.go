package van_test

import (
	"fmt"
	"hash/fnv"
	"math"
	"math/rand"
	"slices"
	"strconv"
	"strings"
	"testing"

	"clinch/api"
	"clinch/van"
)

// These tests are of the package's outside alone.

// config is that of most tests: on the day 10, hooves grow in January by 250, 200, 150 and 100 thousand nanometres a day, and in February by half of that.
func config() api.Config {
	return api.Config{
		Day:    10,
		Rates:  api.Rates{Toe: 250, Heel: 200, In: 150, Out: 100},
		Season: api.Season{1000, 500, 1100, 1200, 1300, 1400, 1500, 1600, 1700, 1800, 1900, 2000},
		Bounds: api.Bounds{Lo: 900, Hi: 1000, Side: 5000000, Least: 1000000},
		Stock:  api.Stock{Bar: 800, Kerf: 5},
		Prices: [4]int{2000, 1500, 800, 1200},
		Credit: 5000,
	}
}

// with is that config with something changed.
func with(change func(c *api.Config)) api.Config {
	c := config()
	change(&c)
	return c
}

func sample() *rand.Rand {
	return rand.New(rand.NewSource(10))
}

func setUp(t *testing.T, c api.Config) *van.Van {
	t.Helper()
	x, e := van.New(c)
	if e != api.OK || x == nil {
		t.Fatalf("New: %v, errno %d", x, e)
	}
	return x
}

var errnos = map[string]api.Errno{
	"ErrInvalid":   api.ErrInvalid,
	"ErrLimit":     api.ErrLimit,
	"ErrName":      api.ErrName,
	"ErrDuplicate": api.ErrDuplicate,
	"ErrRange":     api.ErrRange,
	"ErrNone":      api.ErrNone,
	"ErrState":     api.ErrState,
	"ErrOrder":     api.ErrOrder,
	"ErrStock":     api.ErrStock,
	"ErrMoney":     api.ErrMoney,
	"ErrCommand":   api.ErrCommand,
}

// play does the lines of a script, each with `: ` and its reply, or the name of its error, behind it.
func play(t *testing.T, x *van.Van, script string) {
	t.Helper()
	for _, row := range strings.Split(script, "\n") {
		row = strings.TrimSpace(row)
		if row == "" {
			continue
		}
		line, want, found := strings.Cut(row, ": ")
		if !found {
			t.Fatalf("%q has no reply", row)
		}
		if e, refused := errnos[want]; refused {
			wantRefused(t, x, line, e)
		} else {
			wantReply(t, x, line, want)
		}
	}
}

// played is a new van that has done a script.
func played(t *testing.T, c api.Config, script string) *van.Van {
	t.Helper()
	x := setUp(t, c)
	play(t, x, script)
	return x
}

// wantReply does a line that is not refused: it is written into the book.
func wantReply(t *testing.T, x *van.Van, line, want string) {
	t.Helper()
	before := x.Book()
	reply, e := x.Do(line)
	if e != api.OK || reply != want {
		t.Fatalf("%q: reply %q, errno %d; want %q", line, reply, e, want)
	}
	if got, want := x.Book(), grown(before, line); got != want {
		t.Fatalf("%q: the book is %q, want %q", line, tail(got), tail(want))
	}
}

// wantRefused does a line that is refused: it changes nothing.
func wantRefused(t *testing.T, x *van.Van, line string, want api.Errno) {
	t.Helper()
	before := view(x)
	reply, e := x.Do(line)
	if e != want || reply != "" {
		t.Fatalf("%q: reply %q, errno %d; want errno %d", line, reply, e, want)
	}
	if got := view(x); got != before {
		t.Fatalf("%q was refused with errno %d, and made\n%s\nof\n%s", line, e, got, before)
	}
}

// view is all that can be seen of a van, also of its horses' consents.
func view(x *van.Van) string {
	var s strings.Builder
	fmt.Fprintln(&s, x.Day(), x.Rests(), x.Nails(), x.Entries())
	for _, name := range x.Horses() {
		h, known := x.Hoof(name)
		rules, also := x.Rules(name)
		fmt.Fprintln(&s, name, h, known, rules, also)
		for _, job := range []int{1, 2, 4, 8} {
			y := x.Copy()
			reply, e := y.Do(fmt.Sprint("next ", name, " 0 ", job))
			fmt.Fprintln(&s, reply, e)
		}
	}
	w, e := x.Windows()
	fmt.Fprintln(&s, w, e)
	s.WriteString(x.Book())
	return s.String()
}

func tail(s string) string {
	return s[max(0, len(s)-100):]
}

// grown is a book with one more line, by the chapter's words.
func grown(book, text string) string {
	lines := strings.Split(book, "\n")
	sum := "0000000000000000"
	n := len(lines) - 1
	if n > 0 {
		sum = strings.Fields(lines[n-1])[1]
	}
	return book + fmt.Sprintf("%d %016x %s\n", n, sumOf(sum, text), text)
}

func sumOf(before, text string) uint64 {
	h := fnv.New64a()
	h.Write([]byte(before + " " + text))
	return h.Sum64()
}

// bookOf is the book of some texts, whether or not a van does them.
func bookOf(texts ...string) string {
	var s strings.Builder
	sum := "0000000000000000"
	for n, text := range texts {
		sum = fmt.Sprintf("%016x", sumOf(sum, text))
		fmt.Fprintf(&s, "%d %s %s\n", n, sum, text)
	}
	return s.String()
}

// linesOf are the lines of the book of some texts.
func linesOf(texts ...string) []api.Line {
	var l []api.Line
	sum := uint64(0)
	for n, text := range texts {
		sum = sumOf(fmt.Sprintf("%016x", sum), text)
		l = append(l, api.Line{Number: n, Text: text, Sum: sum})
	}
	return l
}

// times is a text so many times.
func times(count int, text string) []string {
	return slices.Repeat([]string{text}, count)
}

// doAll does a line so many times.
func doAll(t *testing.T, x *van.Van, count int, line string) {
	t.Helper()
	for range count {
		if _, e := x.Do(line); e != api.OK {
			t.Fatalf("%q: errno %d", line, e)
		}
	}
}

func ints(l ...int) []int {
	return l
}

func wantErrno(t *testing.T, what string, got, want api.Errno) {
	t.Helper()
	if got != want {
		t.Errorf("%s: errno %d, want %d", what, got, want)
	}
}

func wantList[T comparable](t *testing.T, what string, got, want []T) {
	t.Helper()
	if !slices.Equal(got, want) {
		t.Errorf("%s: %v, want %v", what, got[:min(len(got), 20)], want[:min(len(want), 20)])
	}
}

func wantValue[T comparable](t *testing.T, what string, got, want T) {
	t.Helper()
	if got != want {
		t.Errorf("%s: %v, want %v", what, got, want)
	}
}

// badNames are words of a line that are no names.
func badNames() []string {
	return []string{"Bob", "bOb", "_bob", "9bob", "bob-", "b.b", "bob!", "~", "abcdefghijklmnopq", strings.Repeat("a", 100)}
}

// goodNames are names that are at an edge.
func goodNames() []string {
	return []string{"a", "z", "a_", "a0", "z9_", "abcdefghijklmnop", "day", "horse"}
}

// badConfigs has a config for each way in which one is not valid.
func badConfigs() []api.Config {
	var l []api.Config
	add := func(change func(c *api.Config)) { l = append(l, with(change)) }
	for _, n := range ints(-1, api.MaxDay+1, math.MinInt, math.MaxInt) {
		add(func(c *api.Config) { c.Day = n })
	}
	for _, n := range ints(-1, api.MaxAmount+1, math.MinInt, math.MaxInt) {
		add(func(c *api.Config) { c.Credit = n })
	}
	for _, n := range ints(-1, 1001) {
		add(func(c *api.Config) { c.Rates.Toe = n })
		add(func(c *api.Config) { c.Rates.Heel = n })
		add(func(c *api.Config) { c.Rates.In = n })
		add(func(c *api.Config) { c.Rates.Out = n })
	}
	for _, n := range ints(-1, 2001) {
		for month := range 12 {
			add(func(c *api.Config) { c.Season[month] = n })
		}
	}
	for _, n := range ints(-1, 100001) {
		for job := range 4 {
			add(func(c *api.Config) { c.Prices[job] = n })
		}
	}
	add(func(c *api.Config) { c.Bounds = api.Bounds{} })
	add(func(c *api.Config) { c.Bounds.Lo = 0 })
	add(func(c *api.Config) { c.Bounds.Lo = 991 })
	add(func(c *api.Config) { c.Bounds.Hi = 2001 })
	add(func(c *api.Config) { c.Bounds.Side = -1 })
	add(func(c *api.Config) { c.Bounds.Side = api.MaxLength + 1 })
	add(func(c *api.Config) { c.Bounds.Least = 999 })
	add(func(c *api.Config) { c.Bounds.Least = api.MaxLength + 1 })
	add(func(c *api.Config) { c.Stock.Bar = 0 })
	add(func(c *api.Config) { c.Stock.Bar = api.MaxBar + 1 })
	add(func(c *api.Config) { c.Stock.Kerf = -1 })
	add(func(c *api.Config) { c.Stock.Kerf = 101 })
	return append(l, api.Config{})
}

func number(word string) int {
	n, _ := strconv.Atoi(word)
	return n
}
