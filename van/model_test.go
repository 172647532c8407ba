package van_test

import (
	"fmt"
	"math/rand"
	"slices"
	"strconv"
	"strings"
	"testing"

	"clinch/api"
	"clinch/bar"
	"clinch/bill"
	"clinch/care"
	"clinch/due"
	"clinch/hoof"
	"clinch/van"
)

// modelHorse and model tell by the chapter's own words what a van is.
type modelHorse struct {
	name, owner string
	hoof        api.Hoof
	rules       []api.Rule
	consent     api.Consent
}

type model struct {
	c       api.Config
	day     int
	horses  []modelHorse
	rests   []int
	nails   int
	entries []api.Entry
	texts   []string
	// What was bought, and used by shoes.
	bought, spent int
}

func (m *model) clone() *model {
	n := *m
	n.horses = slices.Clone(m.horses)
	return &n
}

// do does a line that is of a form.
func (m *model) do(line string) (string, api.Errno) {
	n := m.clone()
	w := strings.Split(line, " ")
	reply, e := n.act(w[0], w[1:])
	if e != api.OK {
		return "", e
	}
	*m = *n
	m.texts = append(m.texts[:len(m.texts):len(m.texts)], line)
	return reply, api.OK
}

func (m *model) act(first string, w []string) (string, api.Errno) {
	if first == "horse" {
		return m.horse(w)
	}
	if slices.Contains([]string{"consent", "order", "replace", "trim", "shoe", "due", "next", "hoof"}, first) {
		for i := range m.horses {
			if m.horses[i].name == w[0] {
				return m.ofHorse(first, &m.horses[i], w)
			}
		}
		return "", api.ErrName
	}
	switch first {
	case "day":
		return m.goOn(number(w[0]))
	case "buy":
		bars, nails := number(w[0]), number(w[1])
		if len(m.rests)+bars > 64 || m.nails+nails > 1000000 {
			return "", api.ErrLimit
		}
		m.rests = slices.Clone(m.rests)
		for range bars {
			m.rests = append(m.rests, m.c.Stock.Bar)
		}
		m.nails += nails
		m.bought += nails
		return fmt.Sprintf("bars %d nails %d", len(m.rests), m.nails), api.OK
	}
	if !care.Name(w[0]) {
		return "", api.ErrName
	}
	if first == "pay" {
		n := number(w[1])
		if n < 1 || n > api.MaxAmount {
			return "", api.ErrRange
		}
		if !m.enter(w[0], -n) {
			return "", api.ErrLimit
		}
	}
	total := 0
	for _, x := range m.entries {
		if x.Account == w[0] {
			total += x.Amount
		}
	}
	return "owed " + strconv.Itoa(total), api.OK
}

func (m *model) goOn(to int) (string, api.Errno) {
	if to > api.MaxDay || to < m.day {
		return "", api.ErrRange
	}
	for i, h := range m.horses {
		longer, e := hoof.Grown(h.hoof, m.c.Rates, m.c.Season, m.day, to)
		if e != api.OK {
			return "", e
		}
		m.horses[i].hoof = longer
	}
	m.day = to
	return fmt.Sprint("day ", to), api.OK
}

func (m *model) horse(w []string) (string, api.Errno) {
	h := api.Hoof{Toe: number(w[2]), Heel: number(w[3]), In: number(w[4]), Out: number(w[5])}
	switch {
	case !care.Name(w[0]) || !care.Name(w[1]):
		return "", api.ErrName
	case slices.ContainsFunc(m.horses, func(x modelHorse) bool { return x.name == w[0] }):
		return "", api.ErrDuplicate
	case !hoof.ValidHoof(h):
		return "", api.ErrInvalid
	case len(m.horses) == 64:
		return "", api.ErrLimit
	}
	m.horses = append(m.horses, modelHorse{name: w[0], owner: w[1], hoof: h})
	return fmt.Sprint("horses ", len(m.horses)), api.OK
}

func (m *model) ofHorse(first string, h *modelHorse, w []string) (string, api.Errno) {
	switch first {
	case "consent":
		h.consent = api.Consent{Jobs: number(w[1]), Until: number(w[2])}
		if !care.ValidConsent(h.consent) {
			return "", api.ErrInvalid
		}
		return "consent", api.OK
	case "order", "replace":
		r := api.Rule{Name: w[1], At: m.day, From: number(w[2]), To: number(w[3]), Feet: number(w[4]), Jobs: number(w[5])}
		if first == "replace" {
			r.Replaces = w[6]
		}
		l, e := care.Added(h.rules, r)
		if e != api.OK {
			return "", e
		}
		h.rules = l
		return fmt.Sprint("orders ", len(l)), api.OK
	case "trim":
		return m.trim(h)
	case "shoe":
		return m.shoe(h, number(w[1]), number(w[2]), number(w[3]))
	case "due":
		n, e := hoof.Leaves(h.hoof, m.c.Rates, m.c.Season, m.c.Bounds, m.day)
		return fmt.Sprint("due ", n), e
	case "next":
		n, e := care.Next(h.rules, h.consent, m.day, number(w[1]), number(w[2]))
		return fmt.Sprint("next ", n), e
	}
	return hoof.Format(h.hoof), api.OK
}

func (m *model) hindered(h *modelHorse, jobs ...int) api.Errno {
	for foot := range 4 {
		for _, job := range jobs {
			if ok, _ := care.Allowed(h.rules, h.consent, m.day, foot, job); !ok {
				return api.ErrOrder
			}
		}
	}
	if late, _ := bill.Late(m.entries, h.owner, m.day, 30); late > m.c.Credit {
		return api.ErrMoney
	}
	return api.OK
}

// enter says whether there is a place for an entry; none is needed for 0.
func (m *model) enter(owner string, amount int) bool {
	if amount != 0 {
		m.entries = append(slices.Clone(m.entries), api.Entry{Day: m.day, Account: owner, Amount: amount})
	}
	return len(m.entries) <= 1000
}

func (m *model) trim(h *modelHorse) (string, api.Errno) {
	if e := m.hindered(h, api.JTrim); e != api.OK {
		return "", e
	}
	to, e := hoof.Trim(h.hoof, m.c.Bounds)
	if e != api.OK {
		return "", e
	}
	if !m.enter(h.owner, 4*m.c.Prices[0]) {
		return "", api.ErrLimit
	}
	taken := h.hoof.Toe + h.hoof.Heel + h.hoof.In + h.hoof.Out - to.Toe - to.Heel - to.In - to.Out
	h.hoof = to
	return fmt.Sprint("taken ", taken), api.OK
}

func (m *model) shoe(h *modelHorse, length, nails, hot int) (string, api.Errno) {
	jobs, amount := []int{api.JNail}, 4*m.c.Prices[1]
	if hot == 1 {
		jobs = append(jobs, api.JHot)
		amount += 4 * m.c.Prices[2]
	}
	if e := m.hindered(h, jobs...); e != api.OK {
		return "", e
	}
	if length < 1 || length > 10000 || nails > 16 || hot > 1 {
		return "", api.ErrRange
	}
	if keeps, _ := hoof.Keeps(h.hoof, m.c.Bounds); !keeps {
		return "", api.ErrState
	}
	from, left, _ := bar.Offcuts(m.c.Stock, m.rests, []int{length, length, length, length})
	if slices.Contains(from, -1) || 4*nails > m.nails {
		return "", api.ErrStock
	}
	m.rests = nil
	for _, n := range left {
		if n > 0 {
			m.rests = append(m.rests, n)
		}
	}
	m.nails -= 4 * nails
	m.spent += 4 * nails
	if !m.enter(h.owner, amount) {
		return "", api.ErrLimit
	}
	return fmt.Sprintf("bars %d nails %d", len(m.rests), m.nails), api.OK
}

func (m *model) windows() ([]api.Window, api.Errno) {
	sorted := slices.SortedFunc(slices.Values(m.horses), func(a, b modelHorse) int { return strings.Compare(a.name, b.name) })
	var l []api.Window
	for _, h := range sorted {
		n, e := hoof.Leaves(h.hoof, m.c.Rates, m.c.Season, m.c.Bounds, m.day)
		switch {
		case e == api.ErrNone:
			l = append(l, api.Window{Lo: m.day, Hi: min(m.day+2000, 100000)})
		case e != api.OK:
			return nil, e
		default:
			l = append(l, api.Window{Lo: m.day, Hi: max(m.day, n-1)})
		}
	}
	return l, api.OK
}

// wantLike holds a van against the model.
func (m *model) wantLike(t *testing.T, x *van.Van) {
	t.Helper()
	wantValue(t, "Day", x.Day(), m.day)
	wantList(t, "Rests", x.Rests(), m.rests)
	wantValue(t, "Nails", x.Nails(), m.nails)
	wantList(t, "Entries", x.Entries(), m.entries)
	wantValue(t, "Book", x.Book(), bookOf(m.texts...))
	var names []string
	for _, h := range m.horses {
		names = append(names, h.name)
		got, known := x.Hoof(h.name)
		wantValue(t, "Hoof of "+h.name, got, h.hoof)
		rules, also := x.Rules(h.name)
		wantList(t, "Rules of "+h.name, rules, h.rules)
		wantValue(t, h.name+" is known", known && also, true)
	}
	slices.Sort(names)
	wantList(t, "Horses", x.Horses(), names)
	want, wantE := m.windows()
	got, e := x.Windows()
	wantErrno(t, "Windows", e, wantE)
	wantList(t, "Windows", got, want)
}

func oneOf[T any](r *rand.Rand, l ...T) T {
	return l[r.Intn(len(l))]
}

// someLine is a line of a form, that is often not refused.
func someLine(r *rand.Rand, m *model) string {
	name := oneOf(r, "bob", "cy", "zed", "eve", "Bob")
	if known := m.horses; len(known) > 0 && r.Intn(8) > 0 {
		name = known[r.Intn(len(known))].name
	}
	owner := oneOf(r, "ann", "ann", "joe", "bob", "Joe")
	jobs := oneOf(r, 15, 15, 15, 15, 7, 7, 3, 2, 1, 6, 0, 16)
	rule := fmt.Sprint(oneOf(r, "o", "p"), r.Intn(6))
	from := max(0, m.day+r.Intn(20)-8)
	to := from + r.Intn(12)
	feet, forbidden := oneOf(r, 15, 1, 8, 6, 4, 16, 0), oneOf(r, 1, 2, 4, 8, 6, 16)
	wall := func() int { return oneOf(r, 60000000, 70000000, 75000000) + r.Intn(9000000) }
	switch r.Intn(24) {
	case 0, 1:
		return fmt.Sprint("day ", max(0, m.day+oneOf(r, 0, 1, 1, 2, 2, 5, 5, 30, 30, 31, 400, -1, -1)))
	case 2, 3:
		return fmt.Sprint("horse ", oneOf(r, name, "bob", "cy", "zed", "eve"), " ", owner, " ", wall(), " ", wall(), " ", wall(), " ", oneOf(r, wall(), 500000001))
	case 4, 5, 8:
		return fmt.Sprint("consent ", name, " ", jobs, " ", m.day+r.Intn(500))
	case 6:
		return fmt.Sprint("order ", name, " ", rule, " ", from, " ", to, " ", feet, " ", forbidden)
	case 7:
		old := fmt.Sprint(oneOf(r, "o", "p"), r.Intn(6))
		if l := m.horses; len(l) > 0 {
			if h := l[r.Intn(len(l))]; len(h.rules) > 0 {
				name, old = h.name, h.rules[r.Intn(len(h.rules))].Name
			}
		}
		return fmt.Sprint("replace ", name, " ", rule, " ", from, " ", to, " ", feet, " ", forbidden, " ", old)
	case 9, 10:
		return fmt.Sprint("buy ", oneOf(r, 0, 0, 1, 1, 2, 4, 65), " ", oneOf(r, 0, 0, 10, 24, 50, 1000001))
	case 11, 12, 13, 14:
		return "trim " + name
	case 15, 16, 17, 18:
		return fmt.Sprint("shoe ", name, " ", oneOf(r, 300, 350, 100, 190, 95, 800, 0, 10001), " ", oneOf(r, 6, 7, 8, 4, 0, 17), " ", oneOf(r, 0, 0, 1, 2))
	case 19:
		return fmt.Sprint("pay ", owner, " ", oneOf(r, 1, 1, 8000, 8000, 20000, 0, 1000000001))
	case 20:
		return "owed " + owner
	case 21:
		return "due " + name
	case 22:
		return fmt.Sprint("next ", name, " ", oneOf(r, 0, 1, 2, 3, 3, 4), " ", oneOf(r, 1, 2, 4, 8, 8, 3))
	}
	return "hoof " + name
}

func someConfig(r *rand.Rand) api.Config {
	return with(func(c *api.Config) {
		c.Day = oneOf(r, 0, 10, 300, 99500)
		c.Rates = oneOf(r, c.Rates, api.Rates{}, api.Rates{Toe: 20, Heel: 18, In: 9, Out: 10}, api.Rates{Toe: 1000, Heel: 900, In: 500, Out: 500})
		c.Credit = oneOf(r, 0, 0, 8000, 30000, api.MaxAmount)
		c.Prices = oneOf(r, c.Prices, [4]int{}, [4]int{0, 7, 0, 0}, [4]int{0, 0, 5, 9})
		c.Stock = oneOf(r, c.Stock, api.Stock{Bar: 1000}, api.Stock{Bar: 400, Kerf: 10})
	})
}

// Each line of many random vans does what the chapter says, and has the error that comes first.
func TestRandomVans(t *testing.T) {
	r := sample()
	seen := map[string]int{}
	for range 60 {
		c := someConfig(r)
		x := setUp(t, c)
		m := &model{c: c, day: c.Day}
		var views []string
		for range 200 {
			line := someLine(r, m)
			before := m.clone()
			want, wantE := m.do(line)
			if r.Intn(8) == 0 {
				x = x.Copy()
			}
			got, e := x.Do(line)
			seen[fmt.Sprint(strings.Fields(line)[0], " ", wantE)]++
			wantErrno(t, line, e, wantE)
			wantValue(t, line, got, want)
			m.wantLike(t, x)
			if t.Failed() {
				t.Fatalf("behind %q of %v", line, before)
			}
			wantPromises(t, before, m, x, line, e)
			if e == api.OK {
				views = append(views, x.Book())
			}
		}
		wantBeginnings(t, r, m, views)
	}
	for _, what := range []string{"day 0", "day 7", "day 4", "horse 0", "horse 5", "horse 6", "horse 1", "consent 0", "consent 1", "order 0", "order 1", "order 6", "replace 0", "replace 5", "replace 9", "buy 0", "buy 4", "trim 0", "trim 5", "trim 10", "trim 12", "shoe 0", "shoe 5", "shoe 10", "shoe 12", "shoe 7", "shoe 9", "shoe 11", "pay 0", "pay 5", "pay 7", "owed 0", "owed 5", "due 0", "due 8", "next 0", "next 7", "next 8", "hoof 0"} {
		if seen[what] < 5 {
			t.Error("the random lines have too few of", what, ":", seen[what])
		}
	}
}

// P10.2, P10.3, P10.4, P10.6
func wantPromises(t *testing.T, before, m *model, x *van.Van, line string, e api.Errno) {
	t.Helper()
	words := strings.Fields(line)
	wantValue(t, "bought nails", x.Nails()+m.spent, m.bought)
	total := 0
	for _, n := range x.Rests() {
		total += n
	}
	for _, n := range before.rests {
		total -= n
	}
	if total > 0 && words[0] != "buy" {
		t.Errorf("%q makes rests of %d", line, total)
	}
	lines, torn, linesE := van.Lines(x.Book())
	if linesE != api.OK || torn || len(lines) != len(m.texts) {
		t.Errorf("the book is not read: %d lines, %v, errno %d", len(lines), torn, linesE)
	}
	if e != api.OK {
		wantValue(t, "the book of a van that refused "+line, x.Book(), bookOf(before.texts...))
		return
	}
	if words[0] == "trim" {
		h, _ := x.Hoof(words[1])
		keeps, _ := hoof.Keeps(h, m.c.Bounds)
		wantValue(t, "keeps the bounds behind "+line, keeps, true)
		if w, e := x.Windows(); e == api.OK && w[slices.Index(x.Horses(), words[1])].Hi < x.Day() {
			t.Errorf("behind %q the window is %v", line, w)
		}
		y := x.Copy()
		if again, e := y.Do(line); e == api.OK {
			wantValue(t, "a second trim", again, "taken 0")
		}
	}
	if words[0] == "shoe" {
		i := slices.IndexFunc(before.horses, func(h modelHorse) bool { return h.name == words[1] })
		h := before.horses[i]
		keeps, _ := hoof.Keeps(h.hoof, m.c.Bounds)
		wantValue(t, "keeps the bounds before "+line, keeps, true)
		for foot := range 4 {
			ok, _ := care.Allowed(h.rules, h.consent, before.day, foot, api.JNail)
			wantValue(t, "allowed on a foot", ok, true)
		}
	}
}

// wantBeginnings holds the vans of a book's beginnings against those that there were (P10.5).
func wantBeginnings(t *testing.T, r *rand.Rand, m *model, books []string) {
	t.Helper()
	again := &model{c: m.c, day: m.c.Day}
	begin := 0
	var replies []string
	for i, book := range books {
		if i%7 == 0 || i == len(books)-1 {
			cut := begin + r.Intn(len(book)-begin)
			y, done, e := van.Replay(m.c, book[:cut])
			if e != api.OK || done != i {
				t.Fatalf("a beginning of %d lines: %d done, errno %d", i, done, e)
			}
			again.wantLike(t, y)
			l, e := van.Replies(m.c, book[:cut])
			wantErrno(t, "Replies", e, api.OK)
			wantList(t, "Replies", l, replies)
			wantUsed(t, again, book[:cut])
			same, e := van.Parting(book[:cut], books[len(books)-1])
			wantErrno(t, "Parting", e, api.OK)
			wantValue(t, "Parting", same, i)
		}
		reply, _ := again.do(m.texts[i])
		replies = append(replies, reply)
		begin = len(book)
	}
}

func wantUsed(t *testing.T, m *model, book string) {
	t.Helper()
	bars := 0
	for _, text := range m.texts {
		if words := strings.Fields(text); words[0] == "buy" {
			bars += number(words[1]) * m.c.Stock.Bar
		}
	}
	for _, n := range m.rests {
		bars -= n
	}
	gotBars, gotNails, e := van.Used(m.c, book)
	wantErrno(t, "Used", e, api.OK)
	wantValue(t, "the bars used", gotBars, bars)
	wantValue(t, "the nails used", gotNails, m.spent)
}

// P10: a van's windows can be booked.
func TestWindowsAreValidForBookings(t *testing.T) {
	x := setUp(t, config())
	for i := range 64 {
		wantReply(t, x, fmt.Sprintf("horse h%d ann 80000000 %d 60000000 60000000", i, 72000000+i*10000), fmt.Sprint("horses ", i+1))
	}
	w, e := x.Windows()
	wantErrno(t, "Windows", e, api.OK)
	wantValue(t, "windows", len(w), 64)
	wantValue(t, "the windows are valid", due.Valid(w, ints(64)), true)
}
