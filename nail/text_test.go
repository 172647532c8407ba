package nail

import (
	"slices"
	"strconv"
	"strings"
	"testing"

	"clinch/api"
)

// 4.5

func TestFormat(t *testing.T) {
	for _, c := range []struct {
		l    []api.Slot
		want string
	}{
		{nil, ""},
		{[]api.Slot{}, ""},
		{[]api.Slot{{Wall: 70, Hold: 9, Old: true}}, "70:9o"},
		{[]api.Slot{{}}, "0:0"},
		{[]api.Slot{{Wall: 1000, Hold: 1000, Behind: true, Old: true, Quick: true}}, "1000:1000boq"},
		{[]api.Slot{{Wall: 1, Behind: true}, {Hold: 2, Quick: true}, {Wall: 10, Hold: 20}}, "1:0b 0:2q 10:20"},
		{[]api.Slot{{Behind: true, Quick: true}, {Behind: true, Old: true}, {Old: true, Quick: true}}, "0:0bq 0:0bo 0:0oq"},
	} {
		if got := Format(c.l); got != c.want {
			t.Errorf("Format of %v is %q", c.l, got)
		}
	}
	for _, l := range badLists() {
		if got := Format(l); got != "" {
			t.Errorf("Format of %v is %q", l[:min(len(l), 20)], got)
		}
	}
}

func TestParse(t *testing.T) {
	for _, c := range []struct {
		s    string
		want []api.Slot
	}{
		{"", nil},
		{"70:9o", []api.Slot{{Wall: 70, Hold: 9, Old: true}}},
		{"0:0", []api.Slot{{}}},
		{"1000:1000boq", []api.Slot{{Wall: 1000, Hold: 1000, Behind: true, Old: true, Quick: true}}},
		{"1:0b 0:2q 10:20", []api.Slot{{Wall: 1, Behind: true}, {Hold: 2, Quick: true}, {Wall: 10, Hold: 20}}},
		{strings.Repeat("0:0 ", 15) + "0:0", make([]api.Slot, 16)},
	} {
		l, e := Parse(c.s)
		wantList(t, "Parse of "+c.s, l, e, c.want, api.OK)
	}
}

func TestParseReadsNothingElse(t *testing.T) {
	for _, s := range []string{
		" ", ":", "70", "70:", ":9", "70:9:", "70:9:1", "70 9", "70:9 ", " 70:9", "70:9  70:9", "70:9\n", "\n70:9", "70:9\t70:9", "70: 9", "70 :9", "70:9 o", "70:9\x00",
		"070:9", "70:09", "00:9", "70:00", "-0:9", "70:-0", "-1:9", "70:-1", "+70:9", "70:+9", "70:9.0", "0x7:9", "7_0:9", "1e1:9", "70:9\u0663", "\u0663:9",
		"70:9x", "70:9O", "70:9B", "70:9ob", "70:9qb", "70:9qo", "70:9bqo", "70:9oo", "70:9bb", "70:9boqq", "70:9boqb", "70:b", "b70:9", "70b:9", "70:b9", "70:9b9", "o", "boq", "70:9,o", "70;9",
		"1001:0", "0:1001", "70:9 1001:0", "4294967366:9", "70:4294967305", "18446744073709551686:9", "70:18446744073709551625", "99999999999999999999999999999999999999:9",
		strings.Repeat("0:0 ", 16) + "0:0", strings.Repeat("0:0 ", 16), strings.Repeat(" ", api.MaxText), strings.Repeat("0", api.MaxText), strings.Repeat(":", api.MaxText),
		strings.Repeat("0:0 ", api.MaxText/4), "0:0" + strings.Repeat("q", api.MaxText-3),
	} {
		l, e := Parse(s)
		if e != api.ErrSyntax || len(l) != 0 {
			t.Errorf("Parse of %.60q is %v, errno %d", s, l, e)
		}
	}
	for _, l := range badLists() {
		if m, e := Parse(text(l[:min(len(l), 5000)])); e != api.ErrSyntax || len(m) != 0 {
			t.Errorf("Parse of %.60q is %v, errno %d", text(l[:1]), m, e)
		}
	}
}

// text is what Format would write if slots were valid.
func text(l []api.Slot) string {
	letters := map[bool][3]string{true: {"b", "o", "q"}}
	var words []string
	for _, s := range l {
		words = append(words, strconv.Itoa(s.Wall)+":"+strconv.Itoa(s.Hold)+letters[s.Behind][0]+letters[s.Old][1]+letters[s.Quick][2])
	}
	return strings.Join(words, " ")
}

func TestParseOfLongTexts(t *testing.T) {
	for _, s := range []string{strings.Repeat(" ", api.MaxText+1), "70:9" + strings.Repeat("q", api.MaxText-3), strings.Repeat("0:0 ", 1000000)} {
		l, e := Parse(s)
		wantList(t, "Parse of a long text", l, e, nil, api.ErrLong)
	}
}

// P4.6

func TestParseOfFormat(t *testing.T) {
	for _, l := range someLists(sample(), 2000) {
		s := Format(l)
		m, e := Parse(s)
		if !slices.Equal(l, m) || e != api.OK || s != text(l) {
			t.Fatalf("Parse of Format of %v is %v, errno %d", l, m, e)
		}
	}
}

func TestFormatOfParse(t *testing.T) {
	r := sample()
	read := 0
	for range 200000 {
		bytes := make([]byte, r.Intn(9))
		for i := range bytes {
			bytes[i] = "0010:: boq"[r.Intn(10)]
		}
		s := string(bytes)
		l, e := Parse(s)
		switch e {
		case api.OK:
			read++
			if Format(l) != s {
				t.Fatalf("Format of Parse of %q is %q", s, Format(l))
			}
		case api.ErrSyntax:
			if len(l) != 0 {
				t.Fatalf("Parse of %q is %v with an error", s, l)
			}
		default:
			t.Fatalf("Parse of %q: errno %d", s, e)
		}
	}
	if read < 1000 {
		t.Error("too few texts were read:", read)
	}
}
