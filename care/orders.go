package care

import "clinch/api"

// orders are valid orders, in a list of their own.
type orders struct {
	list   []api.Rule
	places map[string]int // where an order stands, by its name
	ends   map[string]int // when an order came to be replaced, by its name
}

func noOrders() *orders {
	return &orders{places: map[string]int{}, ends: map[string]int{}}
}

// read takes orders in one by one, and says whether they are valid.
func read(l []api.Rule) (*orders, bool) {
	o := noOrders()
	for _, r := range l {
		if o.refusal(r) != api.OK {
			return nil, false
		}
		o.add(r)
	}
	return o, true
}

// refusal is why the orders would not stay valid with one more at the end. Valid orders are just those of which each one could be added to the ones before it.
func (o *orders) refusal(r api.Rule) api.Errno {
	switch {
	case !validAlone(r):
		return api.ErrInvalid
	case len(o.list) >= api.MaxOrders:
		return api.ErrLimit
	case isKey(o.places, r.Name):
		return api.ErrDuplicate
	case len(o.list) > 0 && r.At < o.list[len(o.list)-1].At:
		return api.ErrRange
	case r.Replaces == "":
		return api.OK
	case !isKey(o.places, r.Replaces):
		return api.ErrName
	case isKey(o.ends, r.Replaces):
		return api.ErrState
	}
	return api.OK
}

// validAlone says that an order is valid, whatever it replaces.
func validAlone(r api.Rule) bool {
	return Name(r.Name) && isDay(r.At) &&
		isDay(r.From) && isDay(r.To) && r.From < r.To &&
		isBetween(r.Feet, 1, allFeet) && isBetween(r.Jobs, 1, allJobs)
}

func isKey(m map[string]int, key string) bool {
	_, ok := m[key]
	return ok
}

// add puts an order that is not refused behind the others.
func (o *orders) add(r api.Rule) {
	o.places[r.Name] = len(o.list)
	if r.Replaces != "" {
		o.ends[r.Replaces] = r.At
	}
	o.list = append(o.list, r)
}

// Chain returns the names of an order, of the one that it replaces, and so on.
func Chain(l []api.Rule, name string) ([]string, api.Errno) {
	o, e := checked(l, true, true)
	if e != api.OK {
		return nil, e
	}
	place, known := o.places[name]
	if !known {
		return nil, api.ErrName
	}
	var chain []string
	for known {
		chain = append(chain, o.list[place].Name)
		place, known = o.places[o.list[place].Replaces]
	}
	return chain, api.OK
}

// Added returns the orders with one more at the end.
func Added(l []api.Rule, r api.Rule) ([]api.Rule, api.Errno) {
	o, e := checked(l, true, true)
	if e != api.OK {
		return nil, e
	}
	if e := o.refusal(r); e != api.OK {
		return nil, e
	}
	o.add(r)
	return o.list, api.OK
}

// Lifted returns the orders with one of them in force no longer than to the day before a day.
func Lifted(l []api.Rule, name string, day int) ([]api.Rule, api.Errno) {
	o, e := checked(l, true, isDay(day))
	if e != api.OK {
		return nil, e
	}
	place, known := o.places[name]
	if !known {
		return nil, api.ErrName
	}
	r := &o.list[place]
	if r.From >= day {
		return nil, api.ErrState
	}
	r.To = min(r.To, day)
	return o.list, api.OK
}
