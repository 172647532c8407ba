package bill

import (
	"strconv"
	"strings"

	"clinch/api"
)

// Format writes a line for each of some valid entries.
func Format(l []api.Entry) string {
	if !Valid(l) {
		return ""
	}
	var text strings.Builder
	for _, x := range l {
		text.WriteString(formatEntry(x))
	}
	return text.String()
}

func formatEntry(x api.Entry) string {
	return strconv.Itoa(x.Day) + " " + x.Account + " " + strconv.Itoa(x.Amount) + "\n"
}

// Parse reads just what Format writes of valid entries.
func Parse(s string) (l []api.Entry, line int, e api.Errno) {
	if len(s) > api.MaxText {
		return nil, 0, api.ErrLong
	}
	for text := range strings.Lines(s) { // with their line feeds
		x, ok := parseEntry(text)
		if !ok || !mayFollow(l, x) {
			return nil, len(l), api.ErrSyntax
		}
		l = append(l, x)
	}
	return l, 0, api.OK
}

func parseEntry(text string) (api.Entry, bool) {
	words := strings.Split(strings.TrimSuffix(text, "\n"), " ")
	if len(words) != 3 {
		return api.Entry{}, false
	}
	day, errDay := strconv.Atoi(words[0])
	amount, errAmount := strconv.Atoi(words[2])
	x := api.Entry{Day: day, Account: words[1], Amount: amount}
	// Atoi also reads signs and leading zeros, which Format does not write, and the line feed may be missing.
	return x, errDay == nil && errAmount == nil && formatEntry(x) == text
}
