package gait

import (
	"math/rand"
	"slices"
	"strconv"
	"strings"
	"testing"

	"clinch/api"
)

// 5.5

func TestFormat(t *testing.T) {
	for _, c := range []struct {
		l    []api.Fall
		want string
	}{
		{nil, ""},
		{[]api.Fall{}, ""},
		{falls(0, 0), "0 0\n"},
		{falls(0, 0, 5, 3, 300, 1, 304, 2), "0 0\n5 3\n300 1\n304 2\n"},
		{falls(7, 1, 7, 2, 1000000000, 3), "7 1\n7 2\n1000000000 3\n"},
	} {
		if got := Format(c.l); got != c.want {
			t.Errorf("Format of %v is %q", c.l, got)
		}
	}
	for _, l := range badFalls() {
		if got := Format(l); got != "" {
			t.Errorf("Format of %v is %.60q", l[:min(len(l), 20)], got)
		}
	}
}

func TestParse(t *testing.T) {
	for _, c := range []struct {
		s    string
		want []api.Fall
	}{
		{"", nil},
		{"0 0\n", falls(0, 0)},
		{"0 0\n5 3\n300 1\n304 2\n", falls(0, 0, 5, 3, 300, 1, 304, 2)},
		{"7 1\n7 2\n1000000000 0\n1000000000 3\n", falls(7, 1, 7, 2, 1000000000, 0, 1000000000, 3)},
	} {
		l, line, e := Parse(c.s)
		wantList(t, "Parse of "+c.s, l, e, c.want, api.OK)
		wantValue(t, "the line", line, e, 0, api.OK)
	}
}

func TestParseTellsTheLine(t *testing.T) {
	good := "0 0\n5 3\n300 1\n"
	for _, bad := range []string{
		// lines that none of these texts has
		"\n", " \n", "301\n", "301 \n", " 2\n", " 301 2\n", "301  2\n", "301 2 \n", "301 2 3\n", "301\t2\n", "301,2\n", "301 2\r\n", "301 2\x00\n", "x\n", "301 x\n", "x 2\n",
		"0301 2\n", "301 02\n", "+301 2\n", "301 +2\n", "-301 2\n", "301 -2\n", "301 -0\n", "301.0 2\n", "3e2 2\n", "0x1ff 2\n", "3_01 2\n", "\u0663\u0663\u0663 2\n", "301 \u0662\n", "301 2;\n",
		// falls that are not valid
		"301 4\n", "301 10\n", "1000000001 2\n", "300 1\n", "300 0\n", "299 3\n", "5 3\n", "0 0\n",
		"4294967597 2\n", "18446744073709551917 2\n", "301 4294967298\n", "301 18446744073709551618\n", "99999999999999999999999999999999999999 2\n", "-1 2\n", "301 -1\n",
		// a line feed too few
		"301 2", "301 ", "301", "3", " ", "x", "300 1", "-",
	} {
		for _, more := range []string{"", "302 2\n", "x\n\n", "\n", "302 2"} {
			if more != "" && !strings.HasSuffix(bad, "\n") {
				continue
			}
			s := good + bad + more
			l, line, e := Parse(s)
			wantList(t, "Parse of "+s, l, e, nil, api.ErrSyntax)
			wantValue(t, "the line of "+strconv.Quote(s), line, e, 3, api.ErrSyntax)
		}
	}
	for _, c := range []struct {
		s    string
		line int
	}{
		{"\n", 0},
		{"\n0 0\n", 0},
		{"0 0", 0},
		{"x", 0},
		{"-1 0\n", 0},
		{"0 4\n1 0\n", 0},
		{"0 0\n0 0\n0 0\n", 1},
		{"0 0\n\n", 1},
		{"0 0\n\n5 1\n", 1},
		{"0 0\n5 1", 1},
		{"0 1\n0 2\n0 0\n", 2},
		{"\xef\xbb\xbf0 0\n", 0},
		{Format(manyFalls(2000)) + "\n", 2000},
		{Format(manyFalls(2000)) + "1000000000 3", 2000},
		{strings.Repeat("\n", api.MaxText), 0},
		{strings.Repeat("0", api.MaxText), 0},
		{"0 0\n" + strings.Repeat("9", api.MaxText-4), 1},
	} {
		l, line, e := Parse(c.s)
		wantList(t, "Parse", l, e, nil, api.ErrSyntax)
		wantValue(t, "the line", line, e, c.line, api.ErrSyntax)
	}
	if l, line, e := Parse(text(numbered(2001))); len(l) != 0 || line != 2000 || e != api.ErrSyntax {
		t.Error("Parse of too many falls is", len(l), line, e)
	}
	if l, line, e := Parse(text(numbered(8000))); len(l) != 0 || line != 2000 || e != api.ErrSyntax {
		t.Error("Parse of far too many falls is", len(l), line, e)
	}
}

// numbered are so many falls, one after the other.
func numbered(count int) []api.Fall {
	var l []api.Fall
	for i := range count {
		l = append(l, api.Fall{At: i / 4, Limb: i % 4})
	}
	return l
}

// text is what Format would write if falls were valid.
func text(l []api.Fall) string {
	var lines []string
	for _, f := range l {
		lines = append(lines, strconv.Itoa(f.At)+" "+strconv.Itoa(f.Limb)+"\n")
	}
	return strings.Join(lines, "")
}

func TestParseOfLongTexts(t *testing.T) {
	for _, s := range []string{strings.Repeat("\n", api.MaxText+1), strings.Repeat("0 0\n", 1000000), strings.Repeat("x", api.MaxText+1), "0 0\n" + strings.Repeat("9", api.MaxText)} {
		l, line, e := Parse(s)
		wantList(t, "Parse of a long text", l, e, nil, api.ErrLong)
		wantValue(t, "the line", line, e, 0, api.ErrLong)
	}
}

// P5.6

func TestParseOfFormat(t *testing.T) {
	for _, l := range someLists(sample(), 2000) {
		s := Format(l)
		m, line, e := Parse(s)
		if !slices.Equal(l, m) || line != 0 || e != api.OK || s != text(l) {
			t.Fatalf("Parse of Format of %v is %v, line %d, errno %d", l, m, line, e)
		}
	}
}

func TestFormatOfParse(t *testing.T) {
	r := sample()
	read, lines := 0, map[int]int{}
	for range 200000 {
		s := ""
		for range r.Intn(5) {
			s += someLine(r)
		}
		l, line, e := Parse(s)
		switch e {
		case api.OK:
			read++
			if Format(l) != s || line != 0 {
				t.Fatalf("Format of Parse of %q is %q, line %d", s, Format(l), line)
			}
		case api.ErrSyntax:
			lines[line]++
			checkLine(t, s, line)
		default:
			t.Fatalf("Parse of %q: errno %d", s, e)
		}
	}
	if read < 1000 || lines[0] < 1000 || lines[1] < 1000 || lines[2] < 1000 || lines[3] < 100 {
		t.Error("too few texts of a kind:", read, lines)
	}
}

// someLine is often that of a fall, otherwise anything.
func someLine(r *rand.Rand) string {
	if r.Intn(4) > 0 {
		return strconv.Itoa(r.Intn(12)) + " " + strconv.Itoa(r.Intn(5)) + "\n"
	}
	bytes := make([]byte, r.Intn(5))
	for i := range bytes {
		bytes[i] = "0123 \n \n+"[r.Intn(9)]
	}
	return string(bytes)
}

// checkLine holds what is before a line, and what is up to its end, against Parse.
func checkLine(t *testing.T, s string, line int) {
	t.Helper()
	split := strings.SplitAfter(s, "\n")
	if _, _, e := Parse(strings.Join(split[:line], "")); e != api.OK {
		t.Fatalf("the line of %q is %d, but an earlier one is wrong", s, line)
	}
	if _, _, e := Parse(strings.Join(split[:line+1], "")); e != api.ErrSyntax {
		t.Fatalf("the line of %q is %d, but that one is right", s, line)
	}
}
