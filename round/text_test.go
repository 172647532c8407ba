package round

import (
	"math/rand"
	"slices"
	"strconv"
	"strings"
	"testing"

	"clinch/api"
)

// 8.5

// texts are stops and roads with their texts.
var texts = []struct {
	p    trip
	text string
}{
	{trip{nil, table("0")}, "0\n"},
	{example(), "60 100 30\n0 40 20\n0 10 10\n10 0 10\n10 10 0\n"},
	{trip{yards("0..0+0"), even(1, 0)}, "0 0 0\n0 0\n0 0\n"},
	{trip{yards("1440..1440+600"), table("0 600/1 0")}, "1440 1440 600\n0 600\n1 0\n"},
	{trip{alike(8, yards("0..1440+600")[0]), even(8, 600)}, eight()},
}

// eight is the text of as many stops as there can be.
func eight() string {
	text := strings.Repeat("0 1440 600\n", 8)
	for i := range 9 {
		text += strings.Repeat("600 ", i) + "0" + strings.Repeat(" 600", 8-i) + "\n"
	}
	return text
}

func TestFormat(t *testing.T) {
	for _, c := range texts {
		if got := Format(c.p.stops, c.p.roads); got != c.text {
			t.Errorf("Format of %v is %q", c.p, got)
		}
	}
	for _, p := range badTrips() {
		if got := Format(p.stops, p.roads); got != "" {
			t.Errorf("Format of %v is %.60q", p.stops[:min(len(p.stops), 5)], got)
		}
	}
}

func TestParse(t *testing.T) {
	for _, c := range texts {
		wantParse(t, c.text, c.p)
	}
}

func wantParse(t *testing.T, s string, want trip) {
	t.Helper()
	stops, roads, line, e := Parse(s)
	wantList(t, "Parse of "+s, stops, e, want.stops, api.OK)
	wantTable(t, "Parse of "+s, roads, e, want.roads, api.OK)
	wantValue(t, "the line", line, e, 0, api.OK)
}

func TestParseTellsTheLine(t *testing.T) {
	for _, c := range []struct {
		s    string
		line int
	}{
		{"", 0},
		{"\n", 0},
		{"0", 0},
		{"x", 0},
		{"x\n", 0},
		{"1\n", 0},
		{"00\n", 0},
		{"0 0\n", 0},
		{" 0\n", 0},
		{"0 \n", 0},
		{"0\r\n", 0},
		// an even number of lines
		{"0\n0\n", 2},
		{"0\n\n", 2},
		{"\n\n", 2},
		{"x\nx", 2},
		{"0\n0", 2},
		{"0\n ", 2},
		{"x\nx\nx\nx\n", 4},
		{"0 0 0\n0 0\n0 0\n\n", 4},
		{"0 0 0\n0 0\n0 0\nx", 4},
		{"0 0 0\n0 0\n", 2},
		{"0 0 0\n0 0\n0 0\n0 0\n0 0", 1},
		// stops in the place of roads and roads in that of stops
		{"0 0 0\n0 0 0\n0 0 0\n", 1},
		{"0 0\n0 0\n0 0\n", 0},
		{"0 0 0\n0 0\n0\n", 2},
		{"0 0 0\n0 0\n0 0 0\n", 2},
		{"0 0 0\n0 0 0\n0 0\n0 0\n0 0\n", 2},
		{"0 0 0\n0 0 0\n0 0 0\n0 0\n0 0 0\n", 3},
		// several wrong lines, and a last line feed that is missing
		{"0 0 0\n0 0\n0 0", 2},
		{"0 0 0\n0 601\n0 0", 1},
		{"0 0 0\n0 601\n601 0\n", 1},
		{"x\n0 1\n1 0", 0},
		{"0 0 0\nx\nx", 1},
		{"0 0 0\n0 0\n\n", 2},
		{"\n0 0\n0 0\n", 0},
		{"0 0 0\n\n0 0\n", 1},
		{eight()[:len(eight())-1], 16},
		// more than 17 lines
		{eight() + "\n", 18},
		{eight() + "x", 18},
		{eight() + "x\n0", 19},
		{strings.Repeat("0\n", 17), 0},
		{strings.Repeat("0\n", 18), 18},
		{strings.Repeat("0\n", 19), 19},
		{strings.Repeat("x\n", 20) + "x", 21},
		{strings.Repeat("0 0 0\n", 9) + strings.Repeat("0 0 0 0 0 0 0 0 0 0\n", 10), 19},
		{strings.Repeat("\n", api.MaxText), api.MaxText},
		{"0 0 0\n" + strings.Repeat("\n", api.MaxText-7), api.MaxText - 6},
		{strings.Repeat("\n", api.MaxText-1) + "x", api.MaxText},
		{strings.Repeat(" ", api.MaxText), 0},
		{strings.Repeat("9", api.MaxText), 0},
		{strings.Repeat("0 ", api.MaxText/2-1) + "0\n", 0},
		{"\xef\xbb\xbf0\n", 0},
	} {
		wantLine(t, c.s, c.line)
	}
}

func TestParseTellsTheLineOfAWrongNumber(t *testing.T) {
	stop, first, second := "5 7 9\n", "0 3\n", "4 0\n"
	wantParse(t, stop+first+second, trip{yards("5..7+9"), table("0 3/4 0")})
	for _, bad := range []string{
		"05 7 9\n", "5 07 9\n", "5 7 09\n", "+5 7 9\n", "5 7 -0\n", "-1 7 9\n", "5 -7 9\n", "5 7 -9\n", "5  7 9\n", "5 7  9\n", " 5 7 9\n", "5 7 9 \n", "5 7\n", "5\n", "5 7 9 9\n", "5\t7 9\n", "5,7,9\n", "5 7 9\r\n", "5 7 9\x00\n", "x 7 9\n", "5 x 9\n", "5 7 x\n", "5.0 7 9\n", "5 7 9e1\n", "5 0x7 9\n", "5 7 1_0\n", "5 7 \u0669\n", "5 7 \xff\n",
		"8 7 9\n", "5 4 9\n", "5 1441 9\n", "1441 1441 9\n", "5 7 601\n", "5 7 18446744073709551625\n", "18446744073709551621 7 9\n", "\n", " \n", "  \n",
	} {
		wantLine(t, bad+first+second, 0)
		wantLine(t, bad+"x\nx", 0)
	}
	for _, bad := range []string{"1 3\n", "0 601\n", "0 -1\n", "0 03\n", "00 3\n", "-0 3\n", "+0 3\n", "0  3\n", " 0 3\n", "0 3 \n", "0\n", "0 3 3\n", "3 0\n", "0 x\n", "x 3\n", "0\t3\n", "0 3\r\n", "0 18446744073709551619\n", "\n", " \n"} {
		wantLine(t, stop+bad+second, 1)
		wantLine(t, stop+bad+"x", 1)
	}
	for _, bad := range []string{"4 1\n", "601 0\n", "-1 0\n", "04 0\n", "4 00\n", "4 -0\n", "4  0\n", " 4 0\n", "4 0 \n", "4\n", "4 0 0\n", "0 4\n", "4 x\n", "x 0\n", "4\t0\n", "4 0\r\n", "\n", " \n", "4 0", "4 ", "4", " ", "x"} {
		wantLine(t, stop+first+bad, 2)
	}
}

func wantLine(t *testing.T, s string, want int) {
	t.Helper()
	stops, roads, line, e := Parse(s)
	if len(stops) != 0 || len(roads) != 0 || line != want || e != api.ErrSyntax {
		t.Errorf("Parse of %.200q is %v, %v, line %d, errno %d, want line %d", s, stops, roads, line, e, want)
	}
}

func TestParseOfLongTexts(t *testing.T) {
	for _, s := range []string{strings.Repeat("\n", api.MaxText+1), strings.Repeat("0 0 0\n", 1000000), strings.Repeat("x", api.MaxText+1), "0\n" + strings.Repeat("9", api.MaxText)} {
		stops, roads, line, e := Parse(s)
		wantList(t, "Parse of a long text", stops, e, nil, api.ErrLong)
		wantTable(t, "Parse of a long text", roads, e, nil, api.ErrLong)
		wantValue(t, "the line", line, e, 0, api.ErrLong)
	}
}

// P8.6

func TestParseOfFormat(t *testing.T) {
	r := sample()
	for range 2000 {
		p := someTrip(r, r.Intn(9), r.Intn(1300))
		for _, row := range p.roads {
			for j := range row {
				row[j] *= r.Intn(32) // up to 589
			}
		}
		wantParse(t, Format(p.stops, p.roads), p)
	}
}

func TestFormatOfParse(t *testing.T) {
	r := sample()
	read, lines := 0, map[int]int{}
	for range 50000 {
		s := someText(r)
		stops, roads, line, e := Parse(s)
		switch e {
		case api.OK:
			read++
			if Format(stops, roads) != s || line != 0 {
				t.Fatalf("Format of Parse of %q is %q, line %d", s, Format(stops, roads), line)
			}
		case api.ErrSyntax:
			lines[line]++
			checkLine(t, s, line)
		default:
			t.Fatalf("Parse of %q: errno %d", s, e)
		}
	}
	if read < 1000 {
		t.Error("too few right texts:", read)
	}
	for line := range 7 {
		if lines[line] < 100 {
			t.Error("too few texts that are wrong at", line, ":", lines)
		}
	}
}

// someText is often that of a trip, otherwise one that is a little wrong.
func someText(r *rand.Rand) string {
	p := someTrip(r, r.Intn(4), 9)
	s := Format(p.stops, p.roads)
	for range r.Intn(3) {
		if s != "" {
			i := r.Intn(len(s))
			s = s[:i] + strconv.Quote(s[i : i+1])[1:1+r.Intn(2)] + string("90 \n\n+"[r.Intn(6)]) + s[i+r.Intn(2):]
		}
	}
	return s
}

// checkLine holds the line that Parse tells against the chapter's words: what is before it must do, and it must not.
func checkLine(t *testing.T, s string, line int) {
	t.Helper()
	split := strings.SplitAfter(s, "\n")
	if split[len(split)-1] == "" {
		split = split[:len(split)-1]
	}
	count := len(split) / 2
	if len(split)%2 == 0 || len(split) > 17 {
		if line != len(split) {
			t.Fatalf("%q is wrong at %d, not at its number of lines", s, line)
		}
		return
	}
	for i, text := range split[:line+1] {
		if isRight := bruteLine(text, i, count); isRight != (i < line) {
			t.Fatalf("%q is wrong at %d, but the line %d says %t", s, line, i, isRight)
		}
	}
}

// bruteLine says whether a line may stand in a text of so many stops, by trying all numbers that it may have.
func bruteLine(text string, i, count int) bool {
	words := strings.Split(text, " ")
	last := len(words) - 1
	word, ended := strings.CutSuffix(words[last], "\n")
	words[last] = word
	var numbers []int
	for _, word := range words {
		numbers = append(numbers, slices.Index(decimals, word))
	}
	switch {
	case !ended || slices.Contains(numbers, -1):
		return false
	case i < count:
		return len(numbers) == 3 && numbers[0] <= numbers[1] && numbers[2] <= 600
	}
	return len(numbers) == count+1 && numbers[i-count] == 0 && slices.Max(numbers) <= 600
}

// decimals are the numbers from 0 to 1,440 as they stand in texts.
var decimals = func() []string {
	var l []string
	for n := range 1441 {
		l = append(l, strconv.Itoa(n))
	}
	return l
}()
