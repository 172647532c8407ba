package round

import (
	"slices"
	"strconv"
	"strings"

	"clinch/api"
)

const maxLines = 2*api.MaxStops + 1

// Format writes a line for each stop, and then one for the roads of each place.
func Format(stops []api.Stop, roads [][]int) string {
	if !Valid(stops, roads) {
		return ""
	}
	var text strings.Builder
	for _, x := range stops {
		text.WriteString(formatLine(x.Open, x.Close, x.Job))
	}
	for _, row := range roads {
		text.WriteString(formatLine(row...))
	}
	return text.String()
}

func formatLine(numbers ...int) string {
	var words []string
	for _, n := range numbers {
		words = append(words, strconv.Itoa(n))
	}
	return strings.Join(words, " ") + "\n"
}

// Parse reads just what Format writes of valid stops and roads.
func Parse(s string) (stops []api.Stop, roads [][]int, line int, e api.Errno) {
	if len(s) > api.MaxText {
		return nil, nil, 0, api.ErrLong
	}
	lines := slices.Collect(strings.Lines(s)) // with their line feeds
	if len(lines)%2 == 0 || len(lines) > maxLines {
		return nil, nil, len(lines), api.ErrSyntax
	}
	count := len(lines) / 2
	for i, text := range lines[:count] {
		x, ok := parseStop(text)
		if !ok {
			return nil, nil, i, api.ErrSyntax
		}
		stops = append(stops, x)
	}
	for place, text := range lines[count:] {
		row, ok := parseLine(text)
		if !ok || !isRow(row, place, count+1) {
			return nil, nil, count + place, api.ErrSyntax
		}
		roads = append(roads, row)
	}
	return stops, roads, 0, api.OK
}

func parseStop(text string) (api.Stop, bool) {
	l, ok := parseLine(text)
	if !ok || len(l) != 3 {
		return api.Stop{}, false
	}
	x := api.Stop{Open: l[0], Close: l[1], Job: l[2]}
	return x, isStop(x)
}

// parseLine reads the numbers of a line with its line feed.
func parseLine(text string) ([]int, bool) {
	var numbers []int
	for _, word := range strings.Split(strings.TrimSuffix(text, "\n"), " ") {
		n, err := strconv.Atoi(word)
		if err != nil {
			return nil, false
		}
		numbers = append(numbers, n)
	}
	// Atoi also reads signs and leading zeros, which Format does not write, and the line feed may be missing.
	return numbers, formatLine(numbers...) == text
}
