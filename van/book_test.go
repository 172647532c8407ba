package van_test

import (
	"fmt"
	"slices"
	"strconv"
	"strings"
	"testing"

	"clinch/api"
	"clinch/van"
)

// 10.3

func wantLines(t *testing.T, what, book string, want []api.Line, wantTorn bool, wantE api.Errno) {
	t.Helper()
	l, torn, e := van.Lines(book)
	wantErrno(t, what, e, wantE)
	wantList(t, what, l, want)
	wantValue(t, what+": torn", torn, wantTorn)
}

func TestLines(t *testing.T) {
	texts := []string{"x", "day 10", "a  b", "~!", strings.Repeat("y", 200), "0", "1 2 3"}
	book := bookOf(texts...)
	wantLines(t, "no book", "", nil, false, api.OK)
	wantLines(t, "a book", book, linesOf(texts...), false, api.OK)
	for _, end := range []string{"7", " ", "\x00", "7 0123", strings.Repeat("z", 1000), strings.TrimSuffix(bookOf(append(texts, "more")...)[len(book):], "\n")} {
		wantLines(t, "with a torn line", book+end, linesOf(texts...), true, api.OK)
		wantLines(t, "only a torn line", end, nil, true, api.OK)
	}
	wantValue(t, "the sum of day 10", linesOf("day 10")[0].Sum, 0x5a7f32a59ae94e60)
	l, _, _ := van.Lines("0 5a7f32a59ae94e60 day 10\n")
	wantList(t, "Lines", l, []api.Line{{Number: 0, Text: "day 10", Sum: 0x5a7f32a59ae94e60}})
}

func TestEveryBeginningOfABook(t *testing.T) {
	texts := []string{"x", "day 10", "a  b", "horse bob ann 1 2 3 4", "z"}
	book := bookOf(texts...)
	for n := range len(book) + 1 {
		whole := strings.Count(book[:n], "\n")
		torn := n > 0 && book[n-1] != '\n'
		wantLines(t, "a beginning of "+strconv.Itoa(n), book[:n], linesOf(texts...)[:whole], torn, api.OK)
	}
}

func TestLinesThatAreNone(t *testing.T) {
	sum := fmt.Sprintf("%016x", linesOf("abc")[0].Sum)
	if !strings.ContainsAny(sum, "abcdef") {
		t.Fatal("the sum has no letters:", sum)
	}
	wrong := []string{
		"", " ", "abc", "0", "0 ", "0 " + sum, "0 " + sum + " ", sum + " abc",
		"1 " + sum + " abc", "-0 " + sum + " abc", "+0 " + sum + " abc", "00 " + sum + " abc", " " + sum + " abc", "x " + sum + " abc", "4294967296 " + sum + " abc",
		"0 " + strings.ToUpper(sum) + " abc", "0 " + sum[1:] + " abc", "0 0" + sum + " abc", "0 0x" + sum + " abc", "0 " + sum[:15] + " abc", "0  abc", "0 abc",
		"0 " + sum + " abd", "0 " + sum + " ab", "0 " + sum + " abcd", "0 " + sum + " Abc",
		"0  " + sum + " abc", "0 " + sum + "  abc", "0 " + sum + "abc", "0" + sum + " abc", " 0 " + sum + " abc", "0 " + sum + " abc ", "0\t" + sum + " abc", "0 " + sum + "\tabc",
		"0 " + sum + " abc\r", "0 " + sum + " abc\x00", "0 0000000000000000 abc", "0 cbf29ce484222325 abc",
	}
	for i := range 16 {
		other := []byte(sum)
		other[i] = "123456789abcdef0"[strings.IndexByte("0123456789abcdef", other[i])]
		wrong = append(wrong, "0 "+string(other)+" abc")
	}
	// Their sums are right, but these texts are none.
	for _, text := range []string{"", " abc", "abc ", " ", "a\x1fc", "a\x7fc", "a\tc", "a\x00c", "a\rc", "\x80", "\u00e4", strings.Repeat("a", 201), strings.Repeat("a", 1000)} {
		wrong = append(wrong, strings.TrimSuffix(bookOf(text), "\n"))
	}
	for _, line := range wrong {
		what := strconv.Quote(line)
		wantLines(t, what, line+"\n", nil, false, api.ErrSum)
		wantLines(t, what+" before others", line+"\n"+bookOf("abc", "def"), nil, false, api.ErrSum)
		wantLines(t, what+" before a torn line", line+"\n0", nil, false, api.ErrSum)
		wantLines(t, what+" behind others", bookOf("x", "y")+line+"\n", linesOf("x", "y"), false, api.ErrSum)
		wantLines(t, what+", torn", line, nil, len(line) > 0, api.OK)
	}
	wantLines(t, "a byte of 32 and one of 126", bookOf("a ~", "~ !"), linesOf("a ~", "~ !"), false, api.OK)
}

func TestLinesHangTogether(t *testing.T) {
	texts := []string{"a", "b", "c", "d"}
	rows := strings.SplitAfter(bookOf(texts...), "\n")
	book := func(order ...int) string {
		var s strings.Builder
		for _, i := range order {
			s.WriteString(rows[i])
		}
		return s.String()
	}
	for _, c := range []struct {
		book string
		good int
	}{
		{book(0, 1, 3), 2}, {book(0, 2, 1, 3), 1}, {book(1, 2, 3), 0}, {book(0, 0, 1), 1}, {book(0, 1, 1, 2), 2},
		{book(0, 1) + "2 " + rows[0][2:], 2},
		{strings.Replace(book(0, 1, 2, 3), " b\n", " B\n", 1), 1},
		{strings.Replace(book(0, 1, 2, 3), "\n", "\n\n", 1), 1},
		{bookOf("a", "b", "c") + strings.SplitAfter(bookOf("a", "x", "c", "d"), "\n")[3], 3},
	} {
		wantLines(t, c.book, c.book, linesOf(texts...)[:c.good], false, api.ErrSum)
	}
}

func TestBooksThatAreTooLong(t *testing.T) {
	wantLines(t, "600,000 bytes", strings.Repeat("x", 600000), nil, true, api.OK)
	wantLines(t, "600,001 bytes", strings.Repeat("x", 600001), nil, false, api.ErrLong)
	wantLines(t, "600,000 line feeds", strings.Repeat("\n", 600000), nil, false, api.ErrSum)
	wantLines(t, "600,001 line feeds", strings.Repeat("\n", 600001), nil, false, api.ErrLong)
	good := bookOf("a", "b")
	wantLines(t, "a torn line up to 600,000 bytes", good+strings.Repeat(" ", 600000-len(good)), linesOf("a", "b"), true, api.OK)
	wantLines(t, "a torn line beyond 600,000 bytes", good+strings.Repeat(" ", 600001-len(good)), nil, false, api.ErrLong)
	texts := times(2001, strings.Repeat("y", 200))
	wantLines(t, "the longest lines", bookOf(texts[:2000]...), linesOf(texts[:2000]...), false, api.OK)
	texts = times(2001, "x")
	whole := bookOf(texts...)
	book, last := whole[:len(bookOf(texts[:2000]...))], whole[len(bookOf(texts[:2000]...)):]
	wantLines(t, "2,000 lines", book, linesOf(texts[:2000]...), false, api.OK)
	wantLines(t, "2,000 lines and a torn one", book+last[:len(last)-1], linesOf(texts[:2000]...), true, api.OK)
	wantLines(t, "2,001 lines", whole, nil, false, api.ErrLimit)
	wantLines(t, "2,001 lines and a torn one", whole+"x", nil, false, api.ErrLimit)
	wantLines(t, "2,001 lines and a wrong one", whole+"x\n", nil, false, api.ErrLimit)
	wantLines(t, "2,000 lines and a wrong one", book+"x\n", linesOf(texts[:2000]...), false, api.ErrSum)
	wantLines(t, "2,000 lines and an empty one", book+"\n"+last, linesOf(texts[:2000]...), false, api.ErrSum)
}

// work are lines that a van of the config does.
func work() []string {
	return []string{
		"horse bob ann 90000000 72000000 60000000 60000000",
		"consent bob 15 900",
		"order bob rest 50 60 15 6",
		"buy 3 100",
		"trim bob",
		"shoe bob 300 6 1",
		"pay ann 5000",
		"day 12",
		"replace bob light 20 30 1 4 rest",
		"buy 2 7",
		"owed ann",
		"due bob",
		"next bob 0 4",
		"hoof bob",
	}
}

func workReplies() []string {
	return []string{"horses 1", "consent", "orders 1", "bars 3 nails 100", "taken 10000000", "bars 3 nails 76", "owed 12200", "day 12", "orders 2", "bars 5 nails 83", "owed 12200", "due 12", "next 12", "80500000 72400000 60300000 60200000"}
}

// wantReplay also holds what comes with an error against nothing, and Replies and Used against the same errors.
func wantReplay(t *testing.T, what string, c api.Config, book string, wantDone int, wantE api.Errno) *van.Van {
	t.Helper()
	x, done, e := van.Replay(c, book)
	wantErrno(t, what+": Replay", e, wantE)
	wantValue(t, what+": lines done", done, wantDone)
	replies, repliesE := van.Replies(c, book)
	wantErrno(t, what+": Replies", repliesE, wantE)
	bars, nails, usedE := van.Used(c, book)
	wantErrno(t, what+": Used", usedE, wantE)
	if wantE == api.OK {
		wantValue(t, what+": a van", x != nil, true)
		wantValue(t, what+": replies", len(replies), wantDone)
		return x
	}
	if x != nil || len(replies) != 0 || bars != 0 || nails != 0 {
		t.Errorf("%s: with an error come a van %v, the replies %v, and %d and %d used", what, x != nil, replies, bars, nails)
	}
	return nil
}

func TestReplay(t *testing.T) {
	x := setUp(t, config())
	for i, line := range work() {
		y := wantReplay(t, "a book", config(), x.Book(), i, api.OK)
		wantValue(t, "the van of a book", view(y), view(x))
		torn := wantReplay(t, "a torn book", config(), x.Book()+"12", i, api.OK)
		wantValue(t, "the van of a torn book", view(torn), view(x))
		wantReply(t, x, line, workReplies()[i])
		// The van that was replayed goes on as the van does.
		wantReply(t, y, line, workReplies()[i])
		wantValue(t, "a replayed van that went on", view(y), view(x))
	}
	replies, e := van.Replies(config(), x.Book())
	wantErrno(t, "Replies", e, api.OK)
	wantList(t, "Replies", replies, workReplies())
	replies, e = van.Replies(config(), x.Book()+"14 ")
	wantErrno(t, "Replies", e, api.OK)
	wantList(t, "Replies of a torn book", replies, workReplies())
}

func TestReplayErrors(t *testing.T) {
	full := bookOf(times(2001, "owed ann")...)
	long := strings.Repeat("x", 600001)
	for _, book := range []string{"", bookOf(work()...), long, "x\n", full, bookOf("none")} {
		for _, c := range badConfigs()[:20] {
			wantReplay(t, "a wrong config", c, book, 0, api.ErrInvalid)
		}
	}
	wantReplay(t, "a book that is too long", config(), long, 0, api.ErrLong)
	wantReplay(t, "2,001 lines", config(), full, 0, api.ErrLimit)
	wantReplay(t, "2,000 lines", config(), bookOf(times(2000, "owed ann")...), 2000, api.OK)
	wantReplay(t, "a line that is none", config(), bookOf(work()...)+"x\n", 0, api.ErrSum)
	wantReplay(t, "a line that is none behind one that is refused", config(), bookOf("day 10", "hoof bob")+"x\n", 0, api.ErrSum)
	for i := range work() {
		for _, refused := range []string{"day 9", "hoof nobody", "none", "day  13", "day 013", "buy 65 0", "horse bob ann 1 1 1 500000001", "trim ann", "Day 13"} {
			texts := slices.Insert(work(), i, refused)
			wantReplay(t, refused, config(), bookOf(texts...), i, api.ErrSum)
			wantReplay(t, refused+" as the last line", config(), bookOf(texts[:i+1]...), i, api.ErrSum)
			wantReplay(t, refused+" torn", config(), strings.TrimSuffix(bookOf(texts[:i+1]...), "\n"), i, api.OK)
		}
	}
	// With another config the same lines may be refused.
	wantReplay(t, "with shorter bars", with(func(c *api.Config) { c.Stock.Bar = 299 }), bookOf(work()...), 5, api.ErrSum)
	wantReplay(t, "from a later day", with(func(c *api.Config) { c.Day = 13 }), bookOf(work()...), 7, api.ErrSum)
}

func TestParting(t *testing.T) {
	for _, c := range []struct {
		a, b []string
		want int
	}{
		{nil, nil, 0},
		{nil, []string{"a"}, 0},
		{[]string{"a"}, []string{"a"}, 1},
		{[]string{"a"}, []string{"b"}, 0},
		{[]string{"a", "b", "c"}, []string{"a", "b", "c"}, 3},
		{[]string{"a", "b", "c"}, []string{"a", "b"}, 2},
		{[]string{"a", "b", "c"}, []string{"a", "x", "c"}, 1},
		{[]string{"a", "b", "c"}, []string{"x", "b", "c"}, 0},
		{[]string{"a", "b", "c"}, []string{"a", "b", "x", "d"}, 2},
		{times(2000, "a"), times(2000, "a"), 2000},
		{work(), append(work(), "day 99"), 14},
	} {
		for _, end := range []string{"", "7", "0 torn"} {
			for _, books := range [][2]string{{bookOf(c.a...) + end, bookOf(c.b...)}, {bookOf(c.b...), bookOf(c.a...) + end}, {bookOf(c.a...) + end, bookOf(c.b...) + end}} {
				same, e := van.Parting(books[0], books[1])
				wantErrno(t, "Parting", e, api.OK)
				wantValue(t, fmt.Sprint("Parting of ", len(c.a), " and ", len(c.b)), same, c.want)
			}
		}
	}
}

func TestPartingErrors(t *testing.T) {
	good := bookOf("a", "b")
	long := strings.Repeat("x", 600001)
	wrong := good + "x\n"
	full := bookOf(times(2001, "a")...)
	for _, c := range []struct {
		a, b string
		want api.Errno
	}{
		{long, good, api.ErrLong}, {good, long, api.ErrLong}, {long, wrong, api.ErrLong}, {long, full, api.ErrLong},
		{wrong, good, api.ErrSum}, {good, wrong, api.ErrSum}, {wrong, long, api.ErrSum}, {wrong, full, api.ErrSum}, {wrong, wrong, api.ErrSum},
		{full, good, api.ErrLimit}, {good, full, api.ErrLimit}, {full, long, api.ErrLimit}, {full, wrong, api.ErrLimit},
		{"", wrong, api.ErrSum}, {wrong, "", api.ErrSum},
	} {
		same, e := van.Parting(c.a, c.b)
		wantErrno(t, "Parting", e, c.want)
		wantValue(t, "Parting with an error", same, 0)
	}
}

// 10.4

func TestUsed(t *testing.T) {
	for _, c := range []struct {
		lines       []string
		bars, nails int
	}{
		{nil, 0, 0},
		{[]string{"buy 0 0"}, 0, 0},
		{[]string{"buy 5 70", "buy 1 3", "owed ann"}, 0, 0},
		// Four times 305 of three bars are taken, and 24 nails.
		{work(), 1220, 24},
		{work()[:6], 1220, 24},
		{work()[:5], 0, 0},
		// 190 and 190 are left of two bars, which are cut up then.
		{append(work()[:6], "consent bob 15 900", "shoe bob 190 0 0"), 2400 - 410, 24},
	} {
		bars, nails, e := van.Used(config(), bookOf(c.lines...))
		wantErrno(t, "Used", e, api.OK)
		wantValue(t, fmt.Sprint("the bars used by ", c.lines), bars, c.bars)
		wantValue(t, fmt.Sprint("the nails used by ", c.lines), nails, c.nails)
		bars, nails, _ = van.Used(config(), bookOf(c.lines...)+"torn")
		wantValue(t, "the bars used by a torn book", bars, c.bars)
		wantValue(t, "the nails used by a torn book", nails, c.nails)
	}
}

func TestUsedBeyondWhatAVanHolds(t *testing.T) {
	// More is bought in the end than a van can hold at once.
	c := with(func(c *api.Config) {
		c.Rates, c.Prices = api.Rates{}, [4]int{}
		c.Stock = api.Stock{Bar: api.MaxBar, Kerf: 7}
	})
	texts := []string{"horse bob ann 80000000 72000000 60000000 60000000", "consent bob 15 900"}
	for range 900 {
		texts = append(texts, "buy 4 64", "shoe bob 10000 16 1")
	}
	bars, nails, e := van.Used(c, bookOf(texts...))
	wantErrno(t, "Used", e, api.OK)
	wantValue(t, "bars", bars, 900*4*10000)
	wantValue(t, "nails", nails, 900*64)
}
