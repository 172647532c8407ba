package outline

import (
	"strconv"
	"strings"

	"clinch/api"
)

// Format writes the corners of a valid outline as X,Y with blanks between them.
func Format(l []api.Point) string {
	if !Valid(l) {
		return ""
	}
	var words []string
	for _, p := range l {
		words = append(words, strconv.Itoa(p.X)+","+strconv.Itoa(p.Y))
	}
	return strings.Join(words, " ")
}

// Parse reads just what Format writes of valid outlines.
func Parse(s string) ([]api.Point, api.Errno) {
	if len(s) > api.MaxText {
		return nil, api.ErrLong
	}
	var l []api.Point
	for _, word := range strings.Split(s, " ") {
		p, ok := parsePoint(word)
		if !ok {
			return nil, api.ErrSyntax
		}
		l = append(l, p)
	}
	// Format writes no plus and no leading zeros, which parsePoint reads, and no outline that is not valid.
	if Format(l) != s {
		return nil, api.ErrSyntax
	}
	return l, api.OK
}

func parsePoint(word string) (api.Point, bool) {
	x, y, found := strings.Cut(word, ",")
	if !found {
		return api.Point{}, false
	}
	h, errX := strconv.Atoi(x)
	v, errY := strconv.Atoi(y)
	if errX != nil || errY != nil {
		return api.Point{}, false
	}
	return api.Point{X: h, Y: v}, true
}
