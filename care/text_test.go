package care

import (
	"math/rand"
	"slices"
	"strconv"
	"strings"
	"testing"

	"clinch/api"
)

// 6.5

func TestFormat(t *testing.T) {
	for _, c := range []struct {
		l    []api.Rule
		want string
	}{
		{nil, ""},
		{[]api.Rule{}, ""},
		{example(), "rest 10 10 50 15 6\nlight 20 20 30 1 4 rest\n"},
		{given("a 0 0 1 1 1"), "a 0 0 1 1 1\n"},
		{given("abcdefghijklmnop 99999 99999 100000 15 15; a_0 100000 0 100000 8 8 abcdefghijklmnop"), "abcdefghijklmnop 99999 99999 100000 15 15\na_0 100000 0 100000 8 8 abcdefghijklmnop\n"},
	} {
		if got := Format(c.l); got != c.want {
			t.Errorf("Format of %v is %q", c.l, got)
		}
	}
	for _, l := range badOrders() {
		if got := Format(l); got != "" {
			t.Errorf("Format of %v is %.60q", l[:min(len(l), 20)], got)
		}
	}
}

func TestParse(t *testing.T) {
	for _, c := range []struct {
		s    string
		want []api.Rule
	}{
		{"", nil},
		{"rest 10 10 50 15 6\nlight 20 20 30 1 4 rest\n", example()},
		{"a 0 0 1 1 1\n", given("a 0 0 1 1 1")},
		{"a 100000 0 100000 10 15\nb 100000 0 100000 1 2 a\n", given("a 100000 0 100000 10 15; b 100000 0 100000 1 2 a")},
	} {
		l, line, e := Parse(c.s)
		wantList(t, "Parse of "+c.s, l, e, c.want, api.OK)
		wantValue(t, "the line", line, e, 0, api.OK)
	}
}

func TestParseTellsTheLine(t *testing.T) {
	good := "rest 10 10 50 15 6\nlight 20 20 30 1 4 rest\n"
	for _, bad := range []string{
		// lines that none of these texts has
		"\n", " \n", "cut\n", "cut 21 20 30 1\n", "cut 21 20 30 1 \n", " cut 21 20 30 1 4\n", "cut 21 20 30 1 4 \n", "cut  21 20 30 1 4\n", "cut 21 20 30  1 4\n", "cut 21 20 30 1 4  light\n", "cut 21 20 30 1 4 light \n", "cut 21 20 30 1 4 light light\n",
		"cut 21 20 30 1 4 5\n", "21 20 30 1 4\n", "cut 21 20 30 1 light\n", "cut\t21 20 30 1 4\n", "cut,21,20,30,1,4\n", "cut 21 20 30 1 4\r\n", "cut 21 20 30 1 4\x00\n", "cut 21 20 30 1 x\n", "cut x 20 30 1 4\n",
		"cut 021 20 30 1 4\n", "cut 21 020 30 1 4\n", "cut 21 20 030 1 4\n", "cut 21 20 30 01 4\n", "cut 21 20 30 1 04\n", "cut +21 20 30 1 4\n", "cut 21 20 30 1 +4\n", "cut 21 -0 30 1 4\n", "cut 21.0 20 30 1 4\n", "cut 2e1 20 30 1 4\n", "cut 0x1f 20 30 1 4\n", "cut 2_1 20 30 1 4\n", "cut 21 20 30 1 \u0664\n",
		// orders that are not valid
		"Cut 21 20 30 1 4\n", "0 21 20 30 1 4\n", "abcdefghijklmnopq 21 20 30 1 4\n", "rest 21 20 30 1 4\n", "light 21 20 30 1 4\n", "cut 19 20 30 1 4\n", "cut 100001 20 30 1 4\n", "cut 21 -1 30 1 4\n", "cut 21 30 30 1 4\n", "cut 21 20 100001 1 4\n", "cut 21 20 30 0 4\n", "cut 21 20 30 16 4\n", "cut 21 20 30 1 0\n", "cut 21 20 30 1 16\n",
		"cut 21 20 30 1 4 rest\n", "cut 21 20 30 1 4 cut\n", "cut 21 20 30 1 4 last\n", "cut 4294967317 20 30 1 4\n", "cut 18446744073709551637 20 30 1 4\n", "cut 21 20 30 1 18446744073709551620\n",
		// a line feed too few
		"cut 21 20 30 1 4", "cut 21 20 30 1 4 light", "cut 21 20 30 1 ", "cut", "c", " ", "0",
	} {
		for _, more := range []string{"", "last 22 20 30 1 4\n", "x\n\n", "\n", "last 22 20 30 1 4"} {
			if more != "" && !strings.HasSuffix(bad, "\n") {
				continue
			}
			wantLine(t, good+bad+more, 2)
		}
	}
	full := Format(many(100))
	for s, line := range map[string]int{
		"\n":                              0,
		"x":                               0,
		"\na 0 0 1 1 1\n":                 0,
		"a 0 0 1 1 1":                     0,
		"a 0 0 1 1 1 b\nb 0 0 1 1 1\n":    0,
		"a 0 0 1 1 1 a\n":                 0,
		"\xef\xbb\xbfa 0 0 1 1 1\n":       0,
		"a 0 0 1 1 1\n\n":                 1,
		"a 0 0 1 1 1\n\nb 0 0 1 1 1\n":    1,
		"a 0 0 1 1 1\nb 0 0 1 1 1":        1,
		"a 0 0 1 1 1\na 0 0 1 1 1\nx":     1,
		full + "z 5 0 1 1 1\n":            100,
		full + "z 5 0 1 1 1":              100,
		full + "\n":                       100,
		full + "z 5 0 1 1 1\nx\n":         100,
		full + "z":                        100,
		full[:len(full)-1]:                99,
		full[:len(full)-2] + "\n" + full:  99,
		strings.Repeat("\n", api.MaxText): 0,
		strings.Repeat(" ", api.MaxText):  0,
		strings.Repeat("a", api.MaxText):  0,
		"a 0 0 1 1 1\nb " + strings.Repeat("9", api.MaxText-14): 1,
	} {
		wantLine(t, s, line)
	}
}

func wantLine(t *testing.T, s string, want int) {
	t.Helper()
	l, line, e := Parse(s)
	if len(l) != 0 || line != want || e != api.ErrSyntax {
		t.Errorf("Parse of %.200q is %v, line %d, errno %d, want line %d", s, l[:min(len(l), 5)], line, e, want)
	}
}

func TestParseOfLongTexts(t *testing.T) {
	for _, s := range []string{strings.Repeat("\n", api.MaxText+1), strings.Repeat("a 0 0 1 1 1\n", 1000000), strings.Repeat("x", api.MaxText+1), "a 0 0 1 1 1\n" + strings.Repeat("9", api.MaxText)} {
		l, line, e := Parse(s)
		wantList(t, "Parse of a long text", l, e, nil, api.ErrLong)
		wantValue(t, "the line", line, e, 0, api.ErrLong)
	}
}

// P6.6

func TestParseOfFormat(t *testing.T) {
	r := sample()
	for _, l := range [][]api.Rule{nil, {}, example(), many(100), given("abcdefghijklmnop 100000 99999 100000 15 15; a 100000 0 100000 1 1 abcdefghijklmnop")} {
		checkText(t, l)
	}
	for range 5000 {
		checkText(t, someOrders(r, 10))
	}
	for range 20000 {
		l := someOrders(r, 5)
		if len(l) > 0 {
			change(r, &l[r.Intn(len(l))])
		}
		if bruteValid(l) {
			checkText(t, l)
		} else if s := Format(l); s != "" {
			t.Fatalf("Format of %v is %q", l, s)
		}
	}
}

func checkText(t *testing.T, l []api.Rule) {
	t.Helper()
	s := Format(l)
	m, line, e := Parse(s)
	if !slices.Equal(l, m) || line != 0 || e != api.OK || strings.Count(s, "\n") != len(l) {
		t.Fatalf("Parse of Format of %v is %v, line %d, errno %d", l, m, line, e)
	}
}

func TestFormatOfParse(t *testing.T) {
	r := sample()
	read, lines := 0, map[int]int{}
	for range 100000 {
		s := ""
		for range r.Intn(5) {
			s += someLine(r)
		}
		l, line, e := Parse(s)
		switch e {
		case api.OK:
			read++
			if Format(l) != s || line != 0 {
				t.Fatalf("Format of Parse of %q is %q, line %d", s, Format(l), line)
			}
		case api.ErrSyntax:
			lines[line]++
			checkLine(t, s, line)
		default:
			t.Fatalf("Parse of %q: errno %d", s, e)
		}
	}
	if read < 1000 || lines[0] < 1000 || lines[1] < 1000 || lines[2] < 1000 || lines[3] < 100 {
		t.Error("too few texts of a kind:", read, lines)
	}
}

// someLine is often that of an order that may follow others, otherwise of one that is a little wrong.
func someLine(r *rand.Rand) string {
	line := string("abcd"[r.Intn(4)]) + " " + strconv.Itoa(r.Intn(3)) + " 1 " + strconv.Itoa(2+r.Intn(9)) + " 15 " + strconv.Itoa(1+r.Intn(15))
	if r.Intn(4) == 0 {
		line += " " + string("abcd"[r.Intn(4)])
	}
	line += "\n"
	if r.Intn(8) == 0 {
		i := r.Intn(len(line))
		line = line[:i] + string("a01 \n+"[r.Intn(6)]) + line[i+r.Intn(2):]
	}
	return line
}

// checkLine holds what is before a line, and what is up to its end, against Parse.
func checkLine(t *testing.T, s string, line int) {
	t.Helper()
	split := strings.SplitAfter(s, "\n")
	if _, _, e := Parse(strings.Join(split[:line], "")); e != api.OK {
		t.Fatalf("the line of %q is %d, but an earlier one is wrong", s, line)
	}
	if _, _, e := Parse(strings.Join(split[:line+1], "")); e != api.ErrSyntax {
		t.Fatalf("the line of %q is %d, but that one is right", s, line)
	}
}
