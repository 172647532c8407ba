package gait

import (
	"strconv"
	"strings"

	"clinch/api"
)

// Format writes a line for each of some valid falls.
func Format(l []api.Fall) string {
	if !Valid(l) {
		return ""
	}
	var text strings.Builder
	for _, f := range l {
		text.WriteString(formatFall(f) + "\n")
	}
	return text.String()
}

func formatFall(f api.Fall) string {
	return strconv.Itoa(f.At) + " " + strconv.Itoa(f.Limb)
}

// Parse reads just what Format writes of valid falls.
func Parse(s string) (l []api.Fall, line int, e api.Errno) {
	if len(s) > api.MaxText {
		return nil, 0, api.ErrLong
	}
	rest := s
	for rest != "" {
		text, more, ended := strings.Cut(rest, "\n")
		f, ok := parseFall(text)
		if !ended || !ok || !mayFollow(l, f) {
			return nil, len(l), api.ErrSyntax
		}
		l = append(l, f)
		rest = more
	}
	return l, 0, api.OK
}

func parseFall(text string) (api.Fall, bool) {
	at, limb, found := strings.Cut(text, " ")
	if !found {
		return api.Fall{}, false
	}
	a, errAt := strconv.Atoi(at)
	n, errLimb := strconv.Atoi(limb)
	f := api.Fall{At: a, Limb: n}
	// Atoi also reads signs and leading zeros, which Format does not write.
	return f, errAt == nil && errLimb == nil && formatFall(f) == text
}
