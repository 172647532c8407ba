package van

import (
	"slices"
	"strconv"

	"clinch/api"
	"clinch/bar"
	"clinch/bill"
	"clinch/care"
	"clinch/hoof"
)

// Each method here does the lines of one form and returns their reply. It looks for errors in the order of the chapter's table, as the first one that it finds refuses the line.

func told(word string, n int) string {
	return word + " " + strconv.Itoa(n)
}

func (s *state) newDay(p parts) string {
	to := p.numbers[0]
	refuseIf(!isBetween(to, s.day, api.MaxDay), api.ErrRange)
	grown := map[string]horse{}
	for name, h := range s.horses {
		h.hoof = must(hoof.Grown(h.hoof, s.config.Rates, s.config.Season, s.day, to))
		grown[name] = h
	}
	s.day, s.horses = to, grown
	return told("day", to)
}

func (s *state) newHorse(p parts) string {
	name, owner := p.words[0], p.words[1]
	refuseIf(!care.Name(name) || !care.Name(owner), api.ErrName)
	_, known := s.horses[name]
	refuseIf(known, api.ErrDuplicate)
	h := api.Hoof{Toe: p.numbers[0], Heel: p.numbers[1], In: p.numbers[2], Out: p.numbers[3]}
	refuseIf(!hoof.ValidHoof(h), api.ErrInvalid)
	refuseIf(len(s.horses) >= api.MaxHorses, api.ErrLimit)
	s.horses[name] = horse{owner: owner, hoof: h}
	return told("horses", len(s.horses))
}

func (s *state) newConsent(p parts) string {
	name := p.words[0]
	h := s.named(name)
	h.consent = api.Consent{Jobs: p.numbers[0], Until: p.numbers[1]}
	refuseIf(!care.ValidConsent(h.consent), api.ErrInvalid)
	s.horses[name] = h
	return "consent"
}

func (s *state) order(p parts) string {
	return s.newOrder(p, "")
}

func (s *state) replace(p parts) string {
	return s.newOrder(p, p.words[2])
}

// newOrder adds a horse's order, one that replaces no other if old is empty.
func (s *state) newOrder(p parts, old string) string {
	name := p.words[0]
	h := s.named(name)
	h.orders = must(care.Added(h.orders, api.Rule{
		Name:     p.words[1],
		At:       s.day,
		From:     p.numbers[0],
		To:       p.numbers[1],
		Feet:     p.numbers[2],
		Jobs:     p.numbers[3],
		Replaces: old,
	}))
	s.horses[name] = h
	return told("orders", len(h.orders))
}

func (s *state) buy(p parts) string {
	bars, nails := p.numbers[0], p.numbers[1]
	refuseIf(len(s.rests)+bars > maxRests || s.nails+nails > maxNails, api.ErrLimit)
	s.rests = slices.Concat(s.rests, slices.Repeat([]int{s.config.Stock.Bar}, bars))
	s.nails += nails
	return s.supplies()
}

func (s *state) supplies() string {
	return told("bars", len(s.rests)) + " " + told("nails", s.nails)
}

func (s *state) trim(p parts) string {
	name := p.words[0]
	h := s.named(name)
	s.mustBeAllowed(h, api.JTrim)
	trimmed := must(hoof.Trim(h.hoof, s.config.Bounds))
	taken := must(hoof.Taken(h.hoof, trimmed))
	s.charge(h.owner, api.JTrim)
	h.hoof = trimmed
	s.horses[name] = h
	return told("taken", taken.Toe+taken.Heel+taken.In+taken.Out)
}

func (s *state) shoe(p parts) string {
	h := s.named(p.words[0])
	length, nails, hot := p.numbers[0], p.numbers[1], p.numbers[2]
	jobs := api.JNail
	if hot == 1 {
		jobs |= api.JHot
	}
	s.mustBeAllowed(h, jobs)
	refuseIf(!isBetween(length, 1, api.MaxBar) || nails > maxEach || hot > 1, api.ErrRange)
	refuseIf(!must(hoof.Keeps(h.hoof, s.config.Bounds)), api.ErrState)
	s.take(length, nails)
	s.charge(h.owner, jobs)
	return s.supplies()
}

// take takes what four shoes need from the rests and the nails.
func (s *state) take(length, nails int) {
	from, left, e := bar.Offcuts(s.config.Stock, s.rests, slices.Repeat([]int{length}, feet))
	refuseIf(e != api.OK, e)
	refuseIf(slices.Contains(from, -1) || s.nails < feet*nails, api.ErrStock)
	s.rests = slices.DeleteFunc(left, func(rest int) bool { return rest == 0 })
	s.nails -= feet * nails
}

func (s *state) pay(p parts) string {
	owner, amount := p.words[0], p.numbers[0]
	refuseIf(!care.Name(owner), api.ErrName)
	refuseIf(!isBetween(amount, 1, api.MaxAmount), api.ErrRange)
	s.enter(owner, -amount)
	return s.balance(owner)
}

func (s *state) owed(p parts) string {
	refuseIf(!care.Name(p.words[0]), api.ErrName)
	return s.balance(p.words[0])
}

func (s *state) balance(owner string) string {
	return told("owed", must(bill.Balance(s.entries, owner, s.day)))
}

func (s *state) due(p parts) string {
	return told("due", must(s.leaves(s.named(p.words[0]))))
}

func (s *state) next(p parts) string {
	h := s.named(p.words[0])
	return told("next", must(care.Next(h.orders, h.consent, s.day, p.numbers[0], p.numbers[1])))
}

func (s *state) showHoof(p parts) string {
	return hoof.Format(s.named(p.words[0]).hoof)
}
