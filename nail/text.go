package nail

import (
	"strconv"
	"strings"

	"clinch/api"
)

// Format writes a word for each of some valid slots.
func Format(l []api.Slot) string {
	if !ValidSlots(l) {
		return ""
	}
	var words []string
	for _, s := range l {
		words = append(words, formatSlot(s))
	}
	return strings.Join(words, " ")
}

func formatSlot(s api.Slot) string {
	word := strconv.Itoa(s.Wall) + ":" + strconv.Itoa(s.Hold)
	if s.Behind {
		word += "b"
	}
	if s.Old {
		word += "o"
	}
	if s.Quick {
		word += "q"
	}
	return word
}

// Parse reads just what Format writes of valid slots.
func Parse(s string) ([]api.Slot, api.Errno) {
	if len(s) > api.MaxText {
		return nil, api.ErrLong
	}
	if s == "" {
		return nil, api.OK
	}
	var l []api.Slot
	for _, word := range strings.Split(s, " ") {
		slot, ok := parseSlot(word)
		if !ok {
			return nil, api.ErrSyntax
		}
		l = append(l, slot)
	}
	// Format writes no plus and no leading zeros, and letters only once and in their order, all of which parseSlot reads, and no slots that are not valid.
	if Format(l) != s {
		return nil, api.ErrSyntax
	}
	return l, api.OK
}

func parseSlot(word string) (api.Slot, bool) {
	wall, rest, found := strings.Cut(word, ":")
	if !found {
		return api.Slot{}, false
	}
	hold := strings.TrimRight(rest, "boq")
	letters := rest[len(hold):]
	w, errWall := strconv.Atoi(wall)
	h, errHold := strconv.Atoi(hold)
	if errWall != nil || errHold != nil {
		return api.Slot{}, false
	}
	return api.Slot{
		Wall:   w,
		Hold:   h,
		Behind: strings.Contains(letters, "b"),
		Old:    strings.Contains(letters, "o"),
		Quick:  strings.Contains(letters, "q"),
	}, true
}
