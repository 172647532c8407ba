package due

import (
	"math/rand"
	"slices"
	"strconv"
	"strings"
	"testing"

	"clinch/api"
)

// 7.6

func TestFormat(t *testing.T) {
	for _, c := range []struct {
		w    []api.Window
		want string
	}{
		{nil, ""},
		{[]api.Window{}, ""},
		{windows("0..0"), "0 0\n"},
		{windows("0..1 7..100000 100000..100000"), "0 1\n7 100000\n100000 100000\n"},
		{alike(64, api.Window{Lo: 10, Hi: 20}), strings.Repeat("10 20\n", 64)},
	} {
		if got := Format(c.w); got != c.want {
			t.Errorf("Format of %v is %q", c.w, got)
		}
	}
	for _, w := range badWindows() {
		if got := Format(w); got != "" {
			t.Errorf("Format of %v is %.60q", w[:min(len(w), 5)], got)
		}
	}
}

func TestParse(t *testing.T) {
	for _, c := range []struct {
		s    string
		want []api.Window
	}{
		{"", nil},
		{"0 0\n", windows("0..0")},
		{"0 1\n7 100000\n100000 100000\n", windows("0..1 7..100000 100000..100000")},
		{strings.Repeat("10 20\n", 64), alike(64, api.Window{Lo: 10, Hi: 20})},
	} {
		w, line, e := Parse(c.s)
		wantList(t, "Parse of "+c.s, w, e, c.want, api.OK)
		wantValue(t, "the line", line, e, 0, api.OK)
	}
}

func TestParseTellsTheLine(t *testing.T) {
	for _, bad := range []string{
		"\n", " \n", "5\n", "5 \n", " 5\n", " 5 7\n", "5 7 \n", "5  7\n", "5 7 9\n", "5\t7\n", "5,7\n", "5..7\n", "5 7\r\n", "5 7\x00\n", "x 7\n", "5 x\n", "5 7x\n",
		"05 7\n", "5 07\n", "00 7\n", "+5 7\n", "5 +7\n", "-0 7\n", "-1 7\n", "5.0 7\n", "5 7e1\n", "0x5 7\n", "5 1_0\n", "5 \u0667\n",
		"7 5\n", "1 0\n", "5 100001\n", "100001 100001\n", "-2 -1\n", "5 4294967303\n", "18446744073709551621 7\n", "5 18446744073709551623\n",
		"5 7", "5 ", "5", " ", "0", "x",
	} {
		for _, more := range []string{"", "8 9\n", "x\n\n", "\n", "8 9"} {
			if more != "" && !strings.HasSuffix(bad, "\n") {
				continue
			}
			wantLine(t, bad+more, 0)
			wantLine(t, "0 1\n2 100000\n"+bad+more, 2)
		}
	}
	full := strings.Repeat("10 20\n", 64)
	for s, line := range map[string]int{
		"\xef\xbb\xbf5 7\n":               0,
		"5 7\n\n":                         1,
		"5 7\n\n5 7\n":                    1,
		"5 7\n5 7":                        1,
		full + "10 20\n":                  64,
		full + "10 20":                    64,
		full + "\n":                       64,
		full + "x":                        64,
		full + full:                       64,
		full[:len(full)-1]:                63,
		full[:len(full)-2] + "\n" + full:  63,
		strings.Repeat("\n", api.MaxText): 0,
		strings.Repeat(" ", api.MaxText):  0,
		strings.Repeat("9", api.MaxText):  0,
		"5 7\n5 " + strings.Repeat("9", api.MaxText-6): 1,
	} {
		wantLine(t, s, line)
	}
}

func wantLine(t *testing.T, s string, want int) {
	t.Helper()
	w, line, e := Parse(s)
	if len(w) != 0 || line != want || e != api.ErrSyntax {
		t.Errorf("Parse of %.200q is %v, line %d, errno %d, want line %d", s, w[:min(len(w), 5)], line, e, want)
	}
}

func TestParseOfLongTexts(t *testing.T) {
	for _, s := range []string{strings.Repeat("\n", api.MaxText+1), strings.Repeat("5 7\n", 1000000), strings.Repeat("x", api.MaxText+1), "5 7\n" + strings.Repeat("9", api.MaxText)} {
		w, line, e := Parse(s)
		wantList(t, "Parse of a long text", w, e, nil, api.ErrLong)
		wantValue(t, "the line", line, e, 0, api.ErrLong)
	}
}

// P7.6

func TestParseOfFormat(t *testing.T) {
	r := sample()
	for _, w := range [][]api.Window{nil, {}, alike(64, api.Window{Lo: 100000, Hi: 100000}), windows("0..0 0..100000")} {
		checkText(t, w)
	}
	for range 5000 {
		checkText(t, someWindows(r, r.Intn(65), 100000))
		checkText(t, someWindows(r, r.Intn(5), 12))
	}
}

func checkText(t *testing.T, w []api.Window) {
	t.Helper()
	s := Format(w)
	x, line, e := Parse(s)
	if !slices.Equal(w, x) || line != 0 || e != api.OK || strings.Count(s, "\n") != len(w) {
		t.Fatalf("Parse of Format of %v is %v, line %d, errno %d", w, x, line, e)
	}
}

func TestFormatOfParse(t *testing.T) {
	r := sample()
	read, lines := 0, map[int]int{}
	for range 50000 {
		s := ""
		for range r.Intn(5) {
			s += someLine(r)
		}
		w, line, e := Parse(s)
		switch e {
		case api.OK:
			read++
			if Format(w) != s || line != 0 {
				t.Fatalf("Format of Parse of %q is %q, line %d", s, Format(w), line)
			}
		case api.ErrSyntax:
			lines[line]++
			checkLine(t, s, line)
		default:
			t.Fatalf("Parse of %q: errno %d", s, e)
		}
	}
	if read < 1000 || lines[0] < 1000 || lines[1] < 1000 || lines[2] < 1000 || lines[3] < 100 {
		t.Error("too few texts of a kind:", read, lines)
	}
}

// someLine is often that of a window, otherwise one that is a little wrong.
func someLine(r *rand.Rand) string {
	line := strconv.Itoa(r.Intn(12)) + " " + strconv.Itoa(10+r.Intn(9)) + "\n"
	if r.Intn(4) == 0 {
		i := r.Intn(len(line))
		line = line[:i] + string("901 \n+"[r.Intn(6)]) + line[i+r.Intn(2):]
	}
	return line
}

// checkLine holds what is before a line, and what is up to its end, against Parse.
func checkLine(t *testing.T, s string, line int) {
	t.Helper()
	split := strings.SplitAfter(s, "\n")
	if _, _, e := Parse(strings.Join(split[:line], "")); e != api.OK {
		t.Fatalf("the line of %q is %d, but an earlier one is wrong", s, line)
	}
	if _, _, e := Parse(strings.Join(split[:line+1], "")); e != api.ErrSyntax {
		t.Fatalf("the line of %q is %d, but that one is right", s, line)
	}
}
