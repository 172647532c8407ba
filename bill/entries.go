package bill

import (
	"cmp"
	"iter"
	"maps"
	"slices"

	"clinch/api"
)

// Valid reports whether there are at most MaxEntries entries, each valid, in ascending order of their days.
func Valid(l []api.Entry) bool {
	for i, x := range l {
		if !mayFollow(l[:i], x) {
			return false
		}
	}
	return true
}

// mayFollow says that an entry may stand behind some valid ones.
func mayFollow(l []api.Entry, x api.Entry) bool {
	if len(l) >= api.MaxEntries || !isEntry(x) {
		return false
	}
	return len(l) == 0 || l[len(l)-1].Day <= x.Day
}

func isEntry(x api.Entry) bool {
	return isDay(x.Day) && Name(x.Account) && isBetween(x.Amount, -api.MaxAmount, api.MaxAmount) && x.Amount != 0
}

// refusal is the error of entries, of a name, and of the numbers that are asked for.
func refusal(l []api.Entry, name string, inRange bool) api.Errno {
	switch {
	case !Valid(l):
		return api.ErrInvalid
	case !Name(name):
		return api.ErrName
	case !inRange:
		return api.ErrRange
	}
	return api.OK
}

// entriesOf goes through an account's entries from a day to the day before another one.
func entriesOf(l []api.Entry, name string, from, to int) iter.Seq[api.Entry] {
	return func(yield func(api.Entry) bool) {
		for _, x := range l {
			if x.Account == name && x.Day >= from && x.Day < to && !yield(x) {
				return
			}
		}
	}
}

// Of returns an account's entries.
func Of(l []api.Entry, name string) ([]api.Entry, api.Errno) {
	if e := refusal(l, name, true); e != api.OK {
		return nil, e
	}
	return slices.Collect(entriesOf(l, name, 0, api.MaxDay+1)), api.OK
}

// Accounts returns the names of all accounts, in ascending order.
func Accounts(l []api.Entry) ([]string, api.Errno) {
	if !Valid(l) {
		return nil, api.ErrInvalid
	}
	accounts := map[string]bool{}
	for _, x := range l {
		accounts[x.Account] = true
	}
	return slices.Sorted(maps.Keys(accounts)), api.OK
}

// Added returns the entries with one more behind all of its day or an earlier one.
func Added(l []api.Entry, x api.Entry) ([]api.Entry, api.Errno) {
	return Merged(l, []api.Entry{x})
}

// Merged returns the entries of two lists in order, on each day those of the first list before those of the second.
func Merged(a, b []api.Entry) ([]api.Entry, api.Errno) {
	switch {
	case !Valid(a) || !Valid(b):
		return nil, api.ErrInvalid
	case len(a)+len(b) > api.MaxEntries:
		return nil, api.ErrLimit
	}
	merged := slices.Concat(a, b)
	slices.SortStableFunc(merged, func(x, y api.Entry) int { return cmp.Compare(x.Day, y.Day) })
	return merged, api.OK
}

// Reversed returns the entries with the opposite of one of them added on a day.
func Reversed(l []api.Entry, i, day int) ([]api.Entry, api.Errno) {
	switch {
	case !Valid(l):
		return nil, api.ErrInvalid
	case !isBetween(i, 0, len(l)-1) || !isBetween(day, l[i].Day, api.MaxDay):
		return nil, api.ErrRange
	}
	return Added(l, api.Entry{Day: day, Account: l[i].Account, Amount: -l[i].Amount})
}
