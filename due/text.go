package due

import (
	"strconv"
	"strings"

	"clinch/api"
)

// Format writes a line for each of some valid windows.
func Format(w []api.Window) string {
	if !validWindows(w) {
		return ""
	}
	var text strings.Builder
	for _, x := range w {
		text.WriteString(formatWindow(x) + "\n")
	}
	return text.String()
}

func formatWindow(x api.Window) string {
	return strconv.Itoa(x.Lo) + " " + strconv.Itoa(x.Hi)
}

// Parse reads just what Format writes of valid windows.
func Parse(s string) (w []api.Window, line int, e api.Errno) {
	if len(s) > api.MaxText {
		return nil, 0, api.ErrLong
	}
	rest := s
	for rest != "" {
		text, more, ended := strings.Cut(rest, "\n")
		x, ok := parseWindow(text)
		if !ended || !ok || len(w) >= api.MaxHorses {
			return nil, len(w), api.ErrSyntax
		}
		w = append(w, x)
		rest = more
	}
	return w, 0, api.OK
}

func parseWindow(text string) (api.Window, bool) {
	lo, hi, _ := strings.Cut(text, " ")
	a, errLo := strconv.Atoi(lo)
	b, errHi := strconv.Atoi(hi)
	x := api.Window{Lo: a, Hi: b}
	// Atoi also reads signs and leading zeros, which Format does not write.
	return x, errLo == nil && errHi == nil && isWindow(x) && formatWindow(x) == text
}
