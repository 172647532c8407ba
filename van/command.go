package van

import (
	"strconv"
	"strings"
)

// maxDigits is how long a number in a line may be.
const maxDigits = 10

// parts are the words behind the first one of a line: its numbers, and apart from them its other words.
type parts struct {
	words   []string
	numbers []int
}

// kind is a kind of word. It takes a word to the parts of a line, or says that the word is not of this kind.
type kind interface {
	take(word string, p *parts) bool
}

// label is a word that stands for something; each line looks for itself whether it is a name.
type label struct{}

func (label) take(word string, p *parts) bool {
	p.words = append(p.words, word)
	return word != ""
}

// number is a word in decimal, from 0 up.
type number struct{}

func (number) take(word string, p *parts) bool {
	n, err := strconv.Atoi(word)
	p.numbers = append(p.numbers, n)
	// Atoi also reads signs and leading zeros.
	return err == nil && n >= 0 && len(word) <= maxDigits && strconv.Itoa(n) == word
}

// form is a form of lines: what they do, and of which kinds the words behind the first one are.
type form struct {
	do    func(*state, parts) string
	kinds []kind
}

// forms are the forms of lines, by their first words.
func forms() map[string]form {
	var w, n kind = label{}, number{}
	return map[string]form{
		"day":     {(*state).newDay, []kind{n}},
		"horse":   {(*state).newHorse, []kind{w, w, n, n, n, n}},
		"consent": {(*state).newConsent, []kind{w, n, n}},
		"order":   {(*state).order, []kind{w, w, n, n, n, n}},
		"replace": {(*state).replace, []kind{w, w, n, n, n, n, w}},
		"buy":     {(*state).buy, []kind{n, n}},
		"trim":    {(*state).trim, []kind{w}},
		"shoe":    {(*state).shoe, []kind{w, n, n, n}},
		"pay":     {(*state).pay, []kind{w, n}},
		"owed":    {(*state).owed, []kind{w}},
		"due":     {(*state).due, []kind{w}},
		"next":    {(*state).next, []kind{w, n, n}},
		"hoof":    {(*state).showHoof, []kind{w}},
	}
}

// command is a line that is of a form.
type command struct {
	first string
	do    func(*state, parts) string
	parts
}

// read takes a line apart, and says whether it is of a form.
func read(line string) (command, bool) {
	if !isText(line) {
		return command{}, false
	}
	words := strings.Split(line, " ")
	f, known := forms()[words[0]]
	if !known || len(words) != 1+len(f.kinds) {
		return command{}, false
	}
	c := command{first: words[0], do: f.do}
	for i, k := range f.kinds {
		if !k.take(words[1+i], &c.parts) {
			return command{}, false
		}
	}
	return c, true
}
