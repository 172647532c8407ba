package van_test

import (
	"slices"
	"strings"
	"testing"

	"clinch/api"
)

// 10.1: what is a line of one of the forms

// samples has a line of each form. A word in capitals stands for what it says; the others are as they are, or numbers.
func samples() []string {
	return []string{
		"day 5",
		"horse NAME OWNER 5 5 5 5",
		"consent NAME 5 5",
		"order NAME RULE 5 5 5 5",
		"replace NAME RULE 5 5 5 5 OLD",
		"buy 5 5",
		"trim NAME",
		"shoe NAME 5 5 5",
		"pay OWNER 5",
		"owed OWNER",
		"due NAME",
		"next NAME 5 5",
		"hoof NAME",
	}
}

// wantCommand says of a line whether it is of a form.
func wantCommand(t *testing.T, line string, is bool) {
	t.Helper()
	x := setUp(t, config())
	if !is {
		wantRefused(t, x, line, api.ErrCommand)
		return
	}
	if _, e := x.Do(line); e == api.ErrCommand {
		t.Errorf("%q is none of the forms", line)
	}
}

func changed(words []string, i int, word string) string {
	words = slices.Clone(words)
	words[i] = word
	return strings.Join(words, " ")
}

func TestForms(t *testing.T) {
	noNumbers := []string{"", "-1", "-0", "+1", "+0", "01", "00", "007", "0000000000", "1.0", "1,0", "1_0", "1e3", "0x1", "0b1", "a", "5a", "a5", "A", "_", "12345678901", "10000000000", "00000000001", "99999999999999999999", "\u0663", "5\u0663"}
	numbers := []string{"0", "1", "9", "10", "4294967296", "9999999999", "1000000000"}
	for _, line := range samples() {
		words := strings.Split(line, " ")
		for i, word := range words {
			switch {
			case i == 0:
				for _, other := range []string{"", strings.ToUpper(word), word + "s", word[1:], "x" + word, word + "_", word + "\x00", "5"} {
					wantCommand(t, changed(words, i, other), false)
				}
			case word == "5":
				for _, other := range noNumbers {
					wantCommand(t, changed(words, i, other), false)
				}
				for _, other := range numbers {
					wantCommand(t, changed(words, i, other), true)
				}
			default:
				wantCommand(t, changed(words, i, ""), false)
				for _, other := range append(badNames(), "bob", "5", "-5", "01", "a=b", "!", "~~") {
					wantCommand(t, changed(words, i, other), true)
				}
			}
		}
	}
}

func TestFormsHaveTheirWords(t *testing.T) {
	for _, line := range samples() {
		words := strings.Split(line, " ")
		wantCommand(t, line, true)
		for i := range words {
			wantCommand(t, strings.Join(slices.Delete(slices.Clone(words), i, i+1), " "), false)
			wantCommand(t, strings.Join(words[:i], " "), false)
		}
		for _, word := range []string{"5", "bob", "x y", ""} {
			wantCommand(t, line+" "+word, false)
			wantCommand(t, word+" "+line, false)
		}
	}
}

func TestLinesHaveTheirBytes(t *testing.T) {
	for _, line := range samples() {
		for _, bad := range []string{" " + line, line + " ", line + "  ", strings.Replace(line, " ", "  ", 1), strings.ReplaceAll(line, " ", "\t"), line + "\n", line + "\r", line + "\x00", "\n" + line, line + "\u00e9"} {
			wantCommand(t, bad, false)
		}
	}
	for _, line := range []string{"", " ", "  ", "\n", "day", "x", "nothing of the kind", "5", "day 10 day 10"} {
		wantCommand(t, line, false)
	}
	x := setUp(t, config())
	for b := range 256 {
		line := "hoof b" + string([]byte{byte(b)}) + "b"
		switch {
		case b <= 32 || b > 126:
			wantRefused(t, x, line, api.ErrCommand)
		default:
			wantRefused(t, x, line, api.ErrName)
		}
	}
}

func TestLinesAreOfAtMost200Bytes(t *testing.T) {
	x := setUp(t, config())
	for _, first := range []string{"hoof ", "trim ", "owed ", "due "} {
		wantRefused(t, x, first+strings.Repeat("a", 200-len(first)), api.ErrName)
		wantRefused(t, x, first+strings.Repeat("a", 201-len(first)), api.ErrCommand)
		wantRefused(t, x, first+strings.Repeat("a", 1000000), api.ErrCommand)
	}
	wantRefused(t, x, strings.Repeat("a ", 1000000)+"a", api.ErrCommand)
}

// Lines that are words of the forms but refused have the errors of their own.
func TestWordsThatAreNoNames(t *testing.T) {
	x := played(t, config(), "horse bob ann 80000000 72000000 60000000 60000000: horses 1")
	for _, bad := range badNames() {
		for _, line := range []string{"horse NAME ann 5 5 5 5", "horse new NAME 5 5 5 5", "consent NAME 5 5", "order NAME new 5 6 5 5", "replace NAME new 5 6 5 5 old", "trim NAME", "shoe NAME 5 5 0", "pay NAME 5", "owed NAME", "due NAME", "next NAME 0 1", "hoof NAME", "replace bob new 5 6 5 5 NAME"} {
			wantRefused(t, x, strings.Replace(line, "NAME", bad, 1), api.ErrName)
		}
		wantRefused(t, x, "order bob "+bad+" 5 6 5 5", api.ErrInvalid)
		wantRefused(t, x, "replace bob "+bad+" 5 6 5 5 old", api.ErrInvalid)
	}
	for i, good := range goodNames() {
		y := x.Copy()
		wantReply(t, y, "owed "+good, "owed 0")
		wantReply(t, y, "pay "+good+" 1", "owed -1")
		wantReply(t, y, "horse "+good+" "+goodNames()[len(goodNames())-1-i]+" 5 6 7 8", "horses 2")
		wantReply(t, y, "hoof "+good, "5 6 7 8")
		wantReply(t, y, "order bob "+good+" 5 6 5 5", "orders 1")
		wantReply(t, y, "replace bob new 5 6 5 5 "+good, "orders 2")
	}
}

func TestBooksAreOfAtMost2000Lines(t *testing.T) {
	x := played(t, config(), `
		horse bob ann 80000000 72000000 60000000 60000000: horses 1
		pay ann 5: owed -5
	`)
	doAll(t, x, 1997, "owed ann")
	y := x.Copy()
	wantReply(t, x, "day 11", "day 11")
	before := view(x)
	// ErrCommand comes before ErrLimit, and that before the errors of the lines.
	for _, line := range []string{"owed ann", "day 11", "day 12", "day 5", "hoof nobody", "hoof bob", "pay ann 0", "pay Ann 1", "buy 1 1", "buy 65 0", "trim bob", "next bob 4 1", "horse bob ann 1 1 1 1"} {
		if reply, e := x.Do(line); reply != "" || e != api.ErrLimit {
			t.Errorf("%q as the line 2000: reply %q, errno %d", line, reply, e)
		}
	}
	for _, line := range []string{"", "day", "day 011", "hoof  bob", "nothing", " owed ann"} {
		if reply, e := x.Do(line); reply != "" || e != api.ErrCommand {
			t.Errorf("%q as the line 2000: reply %q, errno %d", line, reply, e)
		}
	}
	wantValue(t, "a van with a full book", view(x), before)
	wantValue(t, "the lines of a full book", strings.Count(x.Book(), "\n"), 2000)
	// The copy has had a line less.
	wantRefused(t, y, "hoof nobody", api.ErrName)
	wantReply(t, y, "hoof bob", "80000000 72000000 60000000 60000000")
	wantRefused(t, y, "hoof bob", api.ErrLimit)
}
