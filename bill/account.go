package bill

import "clinch/api"

// debts are an account's items, and what it has paid ahead.
type debts struct {
	items []api.Item
	ahead int
}

// debtsOn are an account's debts by the entries up to a day.
func debtsOn(l []api.Entry, name string, day int) debts {
	var d debts
	for x := range entriesOf(l, name, 0, day+1) {
		if x.Amount > 0 {
			d.owe(x.Day, x.Amount)
		} else {
			d.pay(-x.Amount)
		}
	}
	return d
}

func (d *debts) owe(day, amount int) {
	used := min(amount, d.ahead)
	d.ahead -= used
	if amount > used {
		d.items = append(d.items, api.Item{Day: day, Amount: amount - used})
	}
}

func (d *debts) pay(amount int) {
	for amount > 0 && len(d.items) > 0 {
		oldest := &d.items[0]
		paid := min(amount, oldest.Amount)
		amount -= paid
		oldest.Amount -= paid
		if oldest.Amount == 0 {
			d.items = d.items[1:]
		}
	}
	d.ahead += amount
}

// Items returns what an account owes on a day, the oldest debt first.
func Items(l []api.Entry, name string, day int) ([]api.Item, api.Errno) {
	if e := refusal(l, name, isDay(day)); e != api.OK {
		return nil, e
	}
	return debtsOn(l, name, day).items, api.OK
}

// Ahead returns what an account has paid ahead on a day.
func Ahead(l []api.Entry, name string, day int) (int, api.Errno) {
	if e := refusal(l, name, isDay(day)); e != api.OK {
		return 0, e
	}
	return debtsOn(l, name, day).ahead, api.OK
}

// Late returns what an account owes on a day for longer than so many days.
func Late(l []api.Entry, name string, day, days int) (int, api.Errno) {
	if e := refusal(l, name, isDay(day) && isDay(days)); e != api.OK {
		return 0, e
	}
	late := 0
	for _, item := range debtsOn(l, name, day).items {
		if item.Day+days < day {
			late += item.Amount
		}
	}
	return late, api.OK
}

// balance is the sum of an account's amounts before a day.
func balance(l []api.Entry, name string, day int) int {
	total := 0
	for x := range entriesOf(l, name, 0, day) {
		total += x.Amount
	}
	return total
}

// Balance returns the sum of an account's amounts up to a day.
func Balance(l []api.Entry, name string, day int) (int, api.Errno) {
	if e := refusal(l, name, isDay(day)); e != api.OK {
		return 0, e
	}
	return balance(l, name, day+1), api.OK
}

// Statement returns an account over the days from one to the day before another one.
func Statement(l []api.Entry, name string, from, to int) (api.Account, api.Errno) {
	if e := refusal(l, name, isDay(from) && isDay(to) && from <= to); e != api.OK {
		return api.Account{}, e
	}
	a := api.Account{Before: balance(l, name, from), After: balance(l, name, to)}
	for x := range entriesOf(l, name, from, to) {
		if x.Amount > 0 {
			a.Owed += x.Amount
		} else {
			a.Paid -= x.Amount
		}
	}
	return a, api.OK
}

// Clears returns the first day from whose end on an account owes nothing, 0 if it never owed at the end of a day.
func Clears(l []api.Entry, name string) (int, api.Errno) {
	own, e := Of(l, name)
	if e != api.OK {
		return 0, e
	}
	cleared, total, owes := 0, 0, false
	for i, x := range own {
		total += x.Amount
		isEnd := i+1 == len(own) || own[i+1].Day > x.Day
		switch {
		case !isEnd: // what is owed within a day does not count
		case total > 0:
			owes = true
		case owes:
			cleared, owes = x.Day, false
		}
	}
	if owes {
		return 0, api.ErrNone
	}
	return cleared, api.OK
}
