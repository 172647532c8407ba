package hoof

import (
	"strconv"
	"strings"

	"clinch/api"
)

// maxText is how long a hoof's text can be: four lengths of nine digits and three blanks.
const maxText = 4*9 + 3

// Format writes a valid hoof as TOE HEEL IN OUT.
func Format(h api.Hoof) string {
	if !ValidHoof(h) {
		return ""
	}
	var words []string
	for _, n := range wallsOf(h) {
		words = append(words, strconv.FormatInt(n, 10))
	}
	return strings.Join(words, " ")
}

// Parse reads just what Format writes of valid hooves.
func Parse(s string) (api.Hoof, api.Errno) {
	if len(s) > maxText {
		return api.Hoof{}, api.ErrSyntax
	}
	words := strings.Split(s, " ")
	var w walls
	if len(words) != len(w) {
		return api.Hoof{}, api.ErrSyntax
	}
	for i, word := range words {
		n, err := strconv.ParseInt(word, 10, 32)
		if err != nil {
			return api.Hoof{}, api.ErrSyntax
		}
		w[i] = n
	}
	h := w.hoof()
	// ParseInt also reads a plus and leading zeros, and lengths may be too great: Format writes none of these.
	if Format(h) != s {
		return api.Hoof{}, api.ErrSyntax
	}
	return h, api.OK
}
