package van

import (
	"strconv"
	"strings"

	"clinch/api"
)

const (
	maxText = 200    // of a line
	maxBook = 600000 // bytes of a book

	hashBegin  = 14695981039346656037
	hashFactor = 1099511628211
	hexDigits  = 16
)

// isText says that a text may stand in a book.
func isText(s string) bool {
	if len(s) == 0 || len(s) > maxText || s[0] == ' ' || s[len(s)-1] == ' ' {
		return false
	}
	for i := range len(s) {
		if s[i] < 32 || s[i] > 126 {
			return false
		}
	}
	return true
}

func hash(s string) uint64 {
	sum := uint64(hashBegin)
	for i := range len(s) {
		sum = (sum ^ uint64(s[i])) * hashFactor
	}
	return sum
}

func hex(sum uint64) string {
	digits := strconv.FormatUint(sum, 16)
	return strings.Repeat("0", hexDigits-len(digits)) + digits
}

// lineBehind is the line of a book that has a text and stands behind some lines.
func lineBehind(l []api.Line, text string) api.Line {
	before := uint64(0)
	if len(l) > 0 {
		before = l[len(l)-1].Sum
	}
	return api.Line{Number: len(l), Text: text, Sum: hash(hex(before) + " " + text)}
}

func format(l []api.Line) string {
	var book strings.Builder
	for _, line := range l {
		book.WriteString(formatLine(line))
	}
	return book.String()
}

func formatLine(l api.Line) string {
	return strconv.Itoa(l.Number) + " " + hex(l.Sum) + " " + l.Text + "\n"
}

// readBehind reads the line of a book that stands behind some lines, with its line feed.
func readBehind(l []api.Line, whole string) (api.Line, bool) {
	words := strings.SplitN(strings.TrimSuffix(whole, "\n"), " ", 3)
	if len(words) != 3 || !isText(words[2]) {
		return api.Line{}, false
	}
	line := lineBehind(l, words[2])
	return line, formatLine(line) == whole
}

// Lines returns the lines of a book, and whether something torn stands behind them.
func Lines(book string) (l []api.Line, torn bool, e api.Errno) {
	if len(book) > maxBook {
		return nil, false, api.ErrLong
	}
	for whole := range strings.Lines(book) { // with their line feeds
		if !strings.HasSuffix(whole, "\n") {
			return l, true, api.OK
		}
		line, ok := readBehind(l, whole)
		switch {
		case !ok:
			return l, false, api.ErrSum
		case len(l) >= api.MaxLines:
			return nil, false, api.ErrLimit
		}
		l = append(l, line)
	}
	return l, false, api.OK
}

// replay does the lines of a book on a new van, and returns the replies to those that were done.
func replay(c api.Config, book string) (*Van, []string, api.Errno) {
	x, e := New(c)
	if e != api.OK {
		return nil, nil, e
	}
	lines, _, e := Lines(book)
	if e != api.OK {
		return nil, nil, e
	}
	var replies []string
	for _, line := range lines {
		reply, e := x.Do(line.Text)
		if e != api.OK {
			return nil, replies, api.ErrSum
		}
		replies = append(replies, reply)
	}
	return x, replies, api.OK
}

// Replay returns the van that a book makes, and how many of its lines were done.
func Replay(c api.Config, book string) (*Van, int, api.Errno) {
	x, replies, e := replay(c, book)
	return x, len(replies), e
}

// Replies returns the replies to the lines of a book.
func Replies(c api.Config, book string) ([]string, api.Errno) {
	_, replies, e := replay(c, book)
	if e != api.OK {
		return nil, e
	}
	return replies, api.OK
}

// Parting returns how many first lines of two books are the same.
func Parting(a, b string) (same int, e api.Errno) {
	linesA, _, e := Lines(a)
	if e != api.OK {
		return 0, e
	}
	linesB, _, e := Lines(b)
	if e != api.OK {
		return 0, e
	}
	for same < min(len(linesA), len(linesB)) && linesA[same] == linesB[same] {
		same++
	}
	return same, api.OK
}

// Used returns how many millimetres of bar, and how many nails, were bought by a book's lines and are not there any more.
func Used(c api.Config, book string) (bars, nails int, e api.Errno) {
	x, _, e := replay(c, book)
	if e != api.OK {
		return 0, 0, e
	}
	for _, line := range x.book {
		if done, _ := read(line.Text); done.first == "buy" {
			bars += done.numbers[0] * c.Stock.Bar
			nails += done.numbers[1]
		}
	}
	for _, rest := range x.rests {
		bars -= rest
	}
	return bars, nails - x.nails, api.OK
}
