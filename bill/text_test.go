package bill

import (
	"math/rand"
	"slices"
	"strconv"
	"strings"
	"testing"

	"clinch/api"
)

// 9.5

func TestFormat(t *testing.T) {
	for _, c := range []struct {
		l    []api.Entry
		want string
	}{
		{nil, ""},
		{[]api.Entry{}, ""},
		{example(), "0 ann 500\n3 ann -300\n5 ann 200\n"},
		{entries("100000 abcdefghijklmnop -1000000000; 100000 z_9 1000000000"), "100000 abcdefghijklmnop -1000000000\n100000 z_9 1000000000\n"},
		{alike(1000, entries("10 ann 20")[0]), strings.Repeat("10 ann 20\n", 1000)},
	} {
		if got := Format(c.l); got != c.want {
			t.Errorf("Format of %v is %.60q", c.l[:min(len(c.l), 5)], got)
		}
	}
	for _, l := range badEntries() {
		if got := Format(l); got != "" {
			t.Errorf("Format of %v is %.60q", l[:min(len(l), 5)], got)
		}
	}
}

func TestParse(t *testing.T) {
	for _, c := range []struct {
		s    string
		want []api.Entry
	}{
		{"", nil},
		{"0 a 1\n", entries("0 a 1")},
		{"0 ann 500\n3 ann -300\n5 ann 200\n", example()},
		{"7 bob 1\n7 ann 1\n7 bob -1\n", entries("7 bob 1; 7 ann 1; 7 bob -1")},
		{"100000 abcdefghijklmnop -1000000000\n100000 z_9 1000000000\n", entries("100000 abcdefghijklmnop -1000000000; 100000 z_9 1000000000")},
		{strings.Repeat("100000 abcdefghijklmnop -1000000000\n", 1000), alike(1000, entries("100000 abcdefghijklmnop -1000000000")[0])},
	} {
		l, line, e := Parse(c.s)
		wantList(t, "Parse", l, e, c.want, api.OK)
		wantValue(t, "the line", line, e, 0, api.OK)
	}
}

func TestParseTellsTheLine(t *testing.T) {
	for _, bad := range []string{
		"\n", " \n", "5\n", "5 ann\n", "5 ann \n", " 5 ann 7\n", "5 ann 7 \n", "5  ann 7\n", "5 ann  7\n", "5 ann 7 9\n", "5 ann 7 x\n", "5\tann\t7\n", "5 ann\t7\n", "5,ann,7\n", "5 ann 7\r\n", "5 ann 7\x00\n", "x ann 7\n", "5 ann x\n", "5 ann 7x\n", "ann 5 7\n", "5 7 ann\n",
		"05 ann 7\n", "5 ann 07\n", "5 ann -07\n", "00 ann 7\n", "+5 ann 7\n", "5 ann +7\n", "-0 ann 7\n", "-1 ann 7\n", "5 ann --7\n", "5 ann - 7\n", "5 ann -\n", "5.0 ann 7\n", "5 ann 7.0\n", "5 ann 7e1\n", "0x5 ann 7\n", "5 ann 1_0\n", "5 ann \u0667\n", "5 ann \u22127\n",
		"5 ann 0\n", "5 ann -0\n", "5 ann 1000000001\n", "5 ann -1000000001\n", "100001 ann 7\n", "5 ann 4294967303\n", "4294967301 ann 7\n", "5 ann 18446744073709551623\n", "18446744073709551621 ann 7\n",
		"5 Ann 7\n", "5 _a 7\n", "5 0a 7\n", "5 a-b 7\n", "5 abcdefghijklmnopq 7\n", "5 \u00e4 7\n", "5 a\xff 7\n",
		"5 ann 7", "5 ann ", "5 ann", "5 ", "5", " ", "0", "x",
	} {
		for _, more := range []string{"", "8 ann 9\n", "x\n\n", "\n", "8 ann 9"} {
			if more != "" && !strings.HasSuffix(bad, "\n") {
				continue
			}
			wantLine(t, bad+more, 0)
			wantLine(t, "0 ann 1\n5 bob -1\n"+bad+more, 2)
		}
	}
	full := strings.Repeat("10 ann 20\n", 1000)
	for s, line := range map[string]int{
		"\xef\xbb\xbf5 ann 7\n":                     0,
		"5 ann 7\n\n":                               1,
		"5 ann 7\n\n5 ann 7\n":                      1,
		"5 ann 7\n5 ann 7":                          1,
		"5 ann 7\n4 ann 7\n":                        1, // not in ascending order
		"5 ann 7\n5 bob 7\n6 ann 1\n5 ann 7\nx":     3,
		"100000 ann 7\n99999 ann 7\n":               1,
		full + "10 ann 20\n":                        1000,
		full + "10 ann 20":                          1000,
		full + "\n":                                 1000,
		full + "x":                                  1000,
		full + full:                                 1000,
		full[:len(full)-1]:                          999,
		full[:len(full)-2] + "\n" + full:            1000,
		full[:len(full)-3] + "\n" + full:            999,
		strings.Repeat("\n", api.MaxText):           0,
		strings.Repeat(" ", api.MaxText):            0,
		strings.Repeat("9", api.MaxText):            0,
		"5 " + strings.Repeat("a", api.MaxText-2):   0,
		"5 ann 7\n5 ann " + strings.Repeat("9", 99): 1,
	} {
		wantLine(t, s, line)
	}
}

func wantLine(t *testing.T, s string, want int) {
	t.Helper()
	l, line, e := Parse(s)
	if len(l) != 0 || line != want || e != api.ErrSyntax {
		t.Errorf("Parse of %.200q is %v, line %d, errno %d, want line %d", s, l[:min(len(l), 5)], line, e, want)
	}
}

func TestParseOfLongTexts(t *testing.T) {
	for _, s := range []string{strings.Repeat("\n", api.MaxText+1), strings.Repeat("5 ann 7\n", 1000000), strings.Repeat("x", api.MaxText+1), "5 ann 7\n" + strings.Repeat("9", api.MaxText)} {
		l, line, e := Parse(s)
		wantList(t, "Parse of a long text", l, e, nil, api.ErrLong)
		wantValue(t, "the line", line, e, 0, api.ErrLong)
	}
}

// P9.6

func TestParseOfFormat(t *testing.T) {
	r := sample()
	for _, l := range [][]api.Entry{nil, {}, example(), mixed(), alike(1000, entries("100000 abcdefghijklmnop -1000000000")[0])} {
		checkText(t, l)
	}
	for range 1000 {
		checkText(t, someEntries(r, r.Intn(1001), 100000))
		checkText(t, someEntries(r, r.Intn(5), 12))
	}
}

func checkText(t *testing.T, l []api.Entry) {
	t.Helper()
	s := Format(l)
	x, line, e := Parse(s)
	if !slices.Equal(l, x) || line != 0 || e != api.OK || strings.Count(s, "\n") != len(l) {
		t.Fatalf("Parse of Format of %v is %v, line %d, errno %d", l, x, line, e)
	}
}

func TestFormatOfParse(t *testing.T) {
	r := sample()
	read, lines := 0, map[int]int{}
	for range 50000 {
		s := ""
		for i := range r.Intn(5) {
			s += someLine(r, i)
		}
		l, line, e := Parse(s)
		switch e {
		case api.OK:
			read++
			if Format(l) != s || line != 0 {
				t.Fatalf("Format of Parse of %q is %q, line %d", s, Format(l), line)
			}
		case api.ErrSyntax:
			lines[line]++
			checkLine(t, s, line)
		default:
			t.Fatalf("Parse of %q: errno %d", s, e)
		}
	}
	if read < 1000 || lines[0] < 1000 || lines[1] < 1000 || lines[2] < 1000 || lines[3] < 100 {
		t.Error("too few texts of a kind:", read, lines)
	}
}

// someLine is often that of an entry, otherwise one that is a little wrong.
func someLine(r *rand.Rand, i int) string {
	line := strconv.Itoa(5*i+r.Intn(8)) + " ann " + strconv.Itoa(r.Intn(30)-9) + "\n"
	if r.Intn(4) == 0 {
		at := r.Intn(len(line))
		line = line[:at] + string("901 \n+-a"[r.Intn(8)]) + line[at+r.Intn(2):]
	}
	return line
}

// checkLine holds what is before a line, and what is up to its end, against Parse.
func checkLine(t *testing.T, s string, line int) {
	t.Helper()
	split := strings.SplitAfter(s, "\n")
	if _, _, e := Parse(strings.Join(split[:line], "")); e != api.OK {
		t.Fatalf("the line of %q is %d, but an earlier one is wrong", s, line)
	}
	if _, _, e := Parse(strings.Join(split[:line+1], "")); e != api.ErrSyntax {
		t.Fatalf("the line of %q is %d, but that one is right", s, line)
	}
}
