package care

import (
	"slices"
	"strconv"
	"strings"
	"testing"

	"clinch/api"
)

// 6.4

var allWords = list("seen vet treat sound lame close")

func TestSteps(t *testing.T) {
	for l, want := range map[string]string{
		"":                               "seen",
		"seen":                           "vet treat close",
		"seen vet":                       "treat",
		"seen treat":                     "sound lame",
		"seen treat sound":               "close",
		"seen treat lame":                "vet treat close",
		"seen close":                     "",
		"seen treat lame treat":          "sound lame",
		"seen treat lame treat sound":    "close",
		"seen treat lame treat lame":     "vet",
		"seen treat lame treat lame vet": "treat",
		"seen treat lame vet treat lame": "vet treat close",
		"seen vet treat lame treat":      "sound lame",
		"seen vet treat lame treat lame": "vet",
		"seen treat lame vet treat lame treat lame": "vet",
		"seen treat sound close":                    "",
		"vet":                                       "",
		"close":                                     "",
		"seen seen":                                 "",
		"seen sound":                                "",
		"seen close close":                          "",
		"seen close seen":                           "",
		"seen treat lame treat lame treat":          "",
		"seen treat lame treat lame close":          "",
		"seen rest":                                 "",
		"Seen":                                      "",
	} {
		wantList(t, "Steps of "+l, Steps(list(l)), api.OK, list(want), api.OK)
	}
	for _, word := range []string{"", " ", "seen ", "SEEN", "see", "seens", "seen\x00", "\u017feen", "none", strings.Repeat("seen", 100000)} {
		wantList(t, "Steps of no word", Steps([]string{word}), api.OK, nil, api.OK)
		wantList(t, "Steps of no second word", Steps([]string{"seen", word}), api.OK, nil, api.OK)
		if SoundCase([]string{word}) || SoundCase([]string{"seen", word}) {
			t.Errorf("a case with %.20q is sound in form", word)
		}
	}
}

func TestSoundCase(t *testing.T) {
	for _, l := range []string{"", "seen", "seen close", "seen vet treat sound close", "seen treat lame treat lame vet treat lame treat lame vet treat sound close", "seen treat lame close"} {
		if !SoundCase(list(l)) {
			t.Error("not sound in form:", l)
		}
	}
	for _, l := range []string{"vet", "treat", "sound", "lame", "close", "seen seen", "seen vet vet", "seen vet close", "seen vet sound", "seen treat treat", "seen treat vet", "seen treat close", "seen treat sound treat", "seen treat sound seen", "seen treat lame sound", "seen treat lame seen", "seen treat lame lame", "seen close vet", "seen treat lame treat lame treat lame"} {
		if SoundCase(list(l)) {
			t.Error("sound in form:", l)
		}
	}
}

func TestOpen(t *testing.T) {
	for l, want := range map[string]bool{"": false, "seen": true, "seen vet": true, "seen treat sound": true, "seen treat lame treat lame": true, "seen close": false, "seen treat sound close": false} {
		open, e := Open(list(l))
		wantValue(t, "Open of "+l, open, e, want, api.OK)
	}
	for _, l := range badCases() {
		open, e := Open(l)
		wantValue(t, "Open", open, e, false, api.ErrInvalid)
	}
}

func badCases() [][]string {
	cases := [][]string{make([]string, 1000000), endless(101), endless(1000000)}
	for _, l := range []string{"vet", "close", "seen rest", "seen seen", "seen close close", "seen close seen", "seen treat lame treat lame treat sound close", "seen treat lame treat lame close", "seen vet close"} {
		cases = append(cases, list(l))
	}
	return append(cases, []string{""}, []string{"seen", ""})
}

// endless is a case of so many steps that stays open.
func endless(count int) []string {
	return append([]string{"seen"}, slices.Repeat(list("vet treat lame"), (count+1)/3)...)[:count]
}

func TestShortest(t *testing.T) {
	for l, want := range map[string]string{
		"":                                      "seen close",
		"seen":                                  "close",
		"seen vet":                              "treat sound close",
		"seen treat":                            "sound close",
		"seen treat sound":                      "close",
		"seen treat lame":                       "close",
		"seen treat lame treat":                 "sound close",
		"seen treat lame treat lame":            "vet treat sound close",
		"seen treat lame treat lame vet":        "treat sound close",
		"seen treat lame vet treat lame":        "close",
		"seen close":                            "",
		"seen treat lame vet treat sound close": "",
	} {
		way, e := Shortest(list(l))
		wantList(t, "Shortest of "+l, way, e, list(want), api.OK)
	}
	for _, l := range badCases() {
		way, e := Shortest(l)
		wantList(t, "Shortest", way, e, nil, api.ErrInvalid)
	}
}

// long is a case of so many steps with some last ones, of which those before end with a first lame.
func long(count int, last string) []string {
	tail := list(last)
	head := list([]string{"seen treat lame", "seen", "seen treat lame treat lame"}[(count-len(tail))%3])
	for len(head)+len(tail) < count {
		head = append(head, list("vet treat lame")...)
	}
	return append(head, tail...)
}

func TestLongCases(t *testing.T) {
	for _, c := range []struct {
		count            int
		last, steps, way string
		e                api.Errno
	}{
		{97, "vet", "treat", "treat sound close", api.OK},
		{98, "vet", "treat", "", api.ErrLimit},
		{99, "vet", "treat", "", api.ErrLimit},
		{100, "vet", "", "", api.ErrLimit},
		{98, "treat", "sound lame", "sound close", api.OK},
		{99, "treat", "sound lame", "", api.ErrLimit},
		{100, "treat", "", "", api.ErrLimit},
		{99, "treat sound", "close", "close", api.OK},
		{100, "treat sound", "", "", api.ErrLimit},
		{99, "", "vet treat close", "close", api.OK},
		{100, "", "", "", api.ErrLimit},
		{96, "treat lame", "vet", "vet treat sound close", api.OK},
		{97, "treat lame", "vet", "", api.ErrLimit},
		{100, "treat lame", "", "", api.ErrLimit},
		{99, "close", "", "", api.OK},
		{100, "close", "", "", api.OK},
		{100, "treat sound close", "", "", api.OK},
	} {
		l := long(c.count, c.last)
		what := strconv.Itoa(len(l)) + " steps that end with " + c.last
		wantList(t, "Steps: "+what, Steps(l), api.OK, list(c.steps), api.OK)
		way, e := Shortest(l)
		wantList(t, "Shortest: "+what, way, e, list(c.way), c.e)
		open, e := Open(l)
		wantValue(t, "Open: "+what, open, e, l[len(l)-1] != "close", api.OK)
		if len(l) != c.count || !SoundCase(l) {
			t.Error("not sound in form:", what)
		}
	}
	for _, last := range list("vet treat close") {
		if l := long(101, last); SoundCase(l) || len(l) != 101 {
			t.Error("sound in form: 101 steps that end with", last)
		}
	}
}

// P6.5

// followers are the steps behind each step, and behind none.
var followers = map[string][]string{"": list("seen"), "seen": list("vet treat close"), "lame": list("vet treat close"), "vet": list("treat"), "treat": list("sound lame"), "sound": list("close")}

// bruteSound says by the chapter's own words that a case is sound in form.
func bruteSound(l []string) bool {
	last, lame := "", 0
	for _, word := range l {
		if lame == 2 && word != "vet" || !slices.Contains(followers[last], word) {
			return false
		}
		if word == "vet" {
			lame = 0
		}
		if word == "lame" {
			lame++
		}
		last = word
	}
	return len(l) <= 100
}

// bruteShortest tries all lists of steps, shorter ones first, those of one length in their order.
func bruteShortest(l []string) ([]string, bool) {
	tries := [][]string{nil}
	for len(tries) > 0 {
		var longer [][]string
		for _, try := range tries {
			all := slices.Concat(l, try)
			if len(all) > 0 && all[len(all)-1] == "close" {
				return try, true
			}
			for _, word := range allWords {
				if bruteSound(append(slices.Clone(all), word)) {
					longer = append(longer, append(slices.Clone(try), word))
				}
			}
		}
		tries = longer
	}
	return nil, false
}

func TestCasesAgainstBrute(t *testing.T) {
	words := append(slices.Clone(allWords), "rest")
	count := 0
	sound := [][]string{nil}
	for range 18 {
		var longer [][]string
		for _, l := range sound {
			checkCase(t, l)
			count++
			for _, word := range words {
				if next := append(slices.Clone(l), word); bruteSound(next) {
					longer = append(longer, next)
				} else if len(Steps(next)) > 0 || SoundCase(next) {
					t.Fatal("sound in form:", next)
				}
			}
		}
		sound = longer
	}
	if count < 200 {
		t.Error("only", count, "cases")
	}
}

func TestLongCasesAgainstBrute(t *testing.T) {
	r := sample()
	count := map[api.Errno]int{}
	for range 1000 {
		l := long(80+r.Intn(10), "")
		for length := 92 + r.Intn(9); len(l) < length && l[len(l)-1] != "close"; {
			steps := slices.DeleteFunc(slices.Clone(allWords), func(word string) bool {
				return !bruteSound(append(slices.Clone(l), word)) || len(l) < 96 && (word == "sound" || word == "close") // it is to become long
			})
			l = append(l, steps[r.Intn(len(steps))])
		}
		checkCase(t, l)
		_, e := Shortest(l)
		count[e]++
	}
	if count[api.OK] < 50 || count[api.ErrLimit] < 50 {
		t.Error("too few of a kind:", count)
	}
}

func checkCase(t *testing.T, l []string) {
	t.Helper()
	var follow []string
	for _, word := range allWords {
		if bruteSound(append(slices.Clone(l), word)) {
			follow = append(follow, word)
		}
	}
	wantList(t, "Steps", Steps(l), api.OK, follow, api.OK)
	open, e := Open(l)
	wantValue(t, "Open", open, e, len(l) > 0 && l[len(l)-1] != "close", api.OK)
	wantE := api.OK
	want, ok := bruteShortest(l)
	if !ok {
		wantE = api.ErrLimit
	}
	way, e := Shortest(l)
	wantList(t, "Shortest", way, e, want, wantE)
	if !SoundCase(l) || !SoundCase(slices.Concat(l, way)) {
		t.Error("not sound in form")
	}
	if t.Failed() {
		t.Fatal("for", l)
	}
}
