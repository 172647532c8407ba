package care

import (
	"strconv"
	"strings"

	"clinch/api"
)

// Format writes a line for each of some valid orders.
func Format(l []api.Rule) string {
	if !ValidRules(l) {
		return ""
	}
	var text strings.Builder
	for _, r := range l {
		text.WriteString(formatRule(r) + "\n")
	}
	return text.String()
}

func formatRule(r api.Rule) string {
	text := r.Name
	for _, n := range [...]int{r.At, r.From, r.To, r.Feet, r.Jobs} {
		text += " " + strconv.Itoa(n)
	}
	if r.Replaces != "" {
		text += " " + r.Replaces
	}
	return text
}

// Parse reads just what Format writes of valid orders.
func Parse(s string) (l []api.Rule, line int, e api.Errno) {
	if len(s) > api.MaxText {
		return nil, 0, api.ErrLong
	}
	o := noOrders()
	rest := s
	for rest != "" {
		text, more, ended := strings.Cut(rest, "\n")
		r, ok := parseRule(text)
		if !ended || !ok || o.refusal(r) != api.OK {
			return nil, len(o.list), api.ErrSyntax
		}
		o.add(r)
		rest = more
	}
	return o.list, 0, api.OK
}

func parseRule(text string) (api.Rule, bool) {
	parts := strings.Split(text, " ")
	if len(parts) != 6 && len(parts) != 7 {
		return api.Rule{}, false
	}
	var numbers [5]int
	for i := range numbers {
		n, err := strconv.Atoi(parts[1+i])
		if err != nil {
			return api.Rule{}, false
		}
		numbers[i] = n
	}
	r := api.Rule{Name: parts[0], At: numbers[0], From: numbers[1], To: numbers[2], Feet: numbers[3], Jobs: numbers[4]}
	if len(parts) == 7 {
		r.Replaces = parts[6]
	}
	// Atoi also reads signs and leading zeros, which Format does not write.
	return r, formatRule(r) == text
}
