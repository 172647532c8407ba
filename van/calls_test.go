package van_test

import (
	"fmt"
	"math"
	"slices"
	"strings"
	"testing"

	"clinch/api"
	"clinch/van"
)

// P10.1 and P1 (R1, R4, R7)

// everyCall calls all functions, and returns a list for each kind of results.
func everyCall(x *van.Van, c api.Config, line, name, book, other string) (rests []int, names []string, rules []api.Rule, entries []api.Entry, windows []api.Window, lines []api.Line, replies []string) {
	van.ValidConfig(c)
	van.New(c)
	x.Copy().Do(line)
	x.Day()
	x.Hoof(name)
	x.Nails()
	x.Book()
	van.Replay(c, book)
	van.Parting(book, other)
	van.Used(c, book)
	rules, _ = x.Rules(name)
	windows, _ = x.Windows()
	lines, _, _ = van.Lines(book)
	replies, _ = van.Replies(c, book)
	return x.Rests(), x.Horses(), rules, x.Entries(), windows, lines, replies
}

func TestEveryCallEnds(t *testing.T) {
	r := sample()
	configs := append(badConfigs(), config(), config(), config(), api.Config{Day: math.MaxInt, Credit: math.MinInt, Stock: api.Stock{Bar: math.MaxInt, Kerf: math.MinInt}})
	words := []string{"day", "horse", "consent", "order", "replace", "buy", "trim", "shoe", "pay", "owed", "due", "next", "hoof", "bob", "ann", "Bob", "", "0", "1", "5", "15", "16", "100000", "100001", "9999999999", "99999999999", "-1", "\xff", "\x00", "\n", " ", strings.Repeat("a", 200)}
	good := bookOf(work()...)
	books := []string{"", "\n", "0", good, good[:len(good)/2], good + "x\n", bookOf("none"), bookOf("day 10", "day 9"), "\xff\n", "0  \n", "0 0 0\n", "-1 0000000000000000 x\n"}
	x, _, _ := van.Replay(config(), good)
	var none *van.Van
	for range 20000 {
		var line []string
		for range r.Intn(8) {
			line = append(line, oneOf(r, words...))
		}
		y := x
		if r.Intn(50) == 0 {
			y = none
		}
		book, other := oneOf(r, books...), oneOf(r, books...)
		if len(book) > 0 && r.Intn(2) == 0 {
			wrong := []byte(book)
			wrong[r.Intn(len(wrong))] = byte(r.Intn(256))
			book = string(wrong)
		}
		everyCall(y, oneOf(r, configs...), strings.Join(line, " "), oneOf(r, words...), book, other)
	}
	long := strings.Repeat("a", 1000000)
	for _, text := range []string{long, strings.Repeat(" ", 1000000), strings.Repeat("\n", 600000), strings.Repeat("0 ", 300000), strings.Repeat("9", 1000000), "buy " + strings.Repeat("9", 100) + " 1"} {
		everyCall(x, config(), text, text, text, text)
		everyCall(none, config(), text, text, text, text)
	}
}

// fill writes over a list, also behind its end.
func fill[T any](l []T, with T) {
	l = l[:cap(l)]
	for i := range l {
		l[i] = with
	}
}

func TestResultsAreNew(t *testing.T) {
	x := played(t, config(), hurdles+`
		buy 1 0: bars 5 nails 100
		horse cy joe 70000000 72000000 60000000 60000000: horses 2
		order bob rest 50 60 15 6: orders 1
		order bob more 50 60 1 1: orders 2
		order bob most 50 60 1 1: orders 3
		shoe bob 100 6 0: bars 5 nails 76
		pay ann 1: owed 5999
		pay joe 1: owed -1
	`)
	y := x.Copy()
	before := view(x)
	book := x.Book()
	rests, names, rules, entries, windows, lines, replies := everyCall(x, config(), "day 12", "bob", book, book)
	wantsLines, wantsReplies := slices.Clone(lines), slices.Clone(replies)
	if len(rests) == 0 || len(names) == 0 || len(rules) == 0 || len(entries) == 0 || len(windows) == 0 || len(lines) == 0 || len(replies) == 0 {
		t.Fatal("a result is empty")
	}
	fill(rests, -99)
	fill(names, "other")
	fill(rules, api.Rule{Name: "other", Feet: 15, Jobs: 15, To: 99})
	fill(entries, api.Entry{Day: -1})
	fill(windows, api.Window{Lo: -99, Hi: -98})
	fill(lines, api.Line{Text: "other"})
	fill(replies, "other")
	wantValue(t, "a van whose results were changed", view(x), before)
	wantValue(t, "its copy", view(y), before)
	_, _, _, _, _, lines, replies = everyCall(x, config(), "day 12", "bob", book, book)
	wantList(t, "Lines again", lines, wantsLines)
	wantList(t, "Replies again", replies, wantsReplies)
	// Results that were taken before a line do not change with it, nor does the van go on from them.
	rests, names, rules, entries, windows, _, _ = everyCall(x, config(), "", "bob", "", "")
	kept := fmt.Sprint(rests, names, rules, entries, windows)
	const more = `
		order bob last 50 60 1 1: orders 4
		buy 3 5: bars 8 nails 81
		shoe bob 100 6 0: bars 8 nails 57
		pay ann 1: owed 11998
		horse ann ann 70000000 72000000 60000000 60000000: horses 3
		day 11: day 11
	`
	play(t, x, more)
	wantValue(t, "results from before", fmt.Sprint(rests, names, rules, entries, windows), kept)
	after := view(x)
	fill(rests, -99)
	fill(rules, api.Rule{Name: "other"})
	fill(entries, api.Entry{Day: -1})
	wantValue(t, "the van behind them", view(x), after)
	wantValue(t, "the copy behind them", view(y), before)
	play(t, y, more)
	wantValue(t, "the copy that does the same", view(y), after)
}

// R7: the same lines make the same van, each time.
func TestSameCallsHaveTheSameResults(t *testing.T) {
	book := bookOf(work()...)
	first, _, _ := van.Replay(config(), book)
	for range 50 {
		again, _, _ := van.Replay(config(), book)
		wantValue(t, "a van", view(again), view(first))
		wantValue(t, "a van that is looked at again", view(again), view(again))
	}
}

// Two vans have nothing in common.
func TestVansAreApart(t *testing.T) {
	x, y := setUp(t, config()), setUp(t, config())
	empty := view(y)
	for i, line := range work() {
		wantReply(t, x, line, workReplies()[i])
	}
	wantValue(t, "another van", view(y), empty)
	for i, line := range work() {
		wantReply(t, y, line, workReplies()[i])
	}
	wantValue(t, "a van that does the same", view(y), view(x))
}
