package care

import (
	"slices"
	"strconv"
	"testing"

	"clinch/api"
)

// 6.1

func TestInForce(t *testing.T) {
	for _, c := range []struct {
		what  string
		l     []api.Rule
		wants map[int]string
	}{
		{"no orders", nil, map[int]string{0: "", 100000: ""}},
		{"the days from From to To - 1", given("a 0 10 12 1 1"), map[int]string{9: "", 10: "a", 11: "a", 12: ""}},
		{"not before it was given", given("a 20 10 30 1 1"), map[int]string{10: "", 19: "", 20: "a", 29: "a", 30: ""}},
		{"given too late", given("a 30 10 30 1 1"), map[int]string{10: "", 29: "", 30: ""}},
		{"the first and the last days", given("a 0 0 1 1 1; b 0 99999 100000 1 1"), map[int]string{0: "a", 1: "", 99998: "", 99999: "b", 100000: ""}},
		{"a replaced order ends", example(), map[int]string{9: "", 10: "rest", 19: "rest", 20: "light", 29: "light", 30: "", 40: ""}},
		{"also before the other one begins", given("a 0 10 50 1 1; b 20 30 40 1 1 a"), map[int]string{19: "a", 20: "", 29: "", 30: "b", 40: ""}},
		{"also behind the other one's days", given("a 0 10 50 1 1; b 20 5 15 1 1 a"), map[int]string{10: "a", 19: "a", 20: "", 49: ""}},
		{"also if the other one is replaced", given("a 0 10 50 1 1; b 20 20 50 1 1 a; c 30 20 50 1 1 b"), map[int]string{19: "a", 20: "b", 29: "b", 30: "c", 49: "c", 50: ""}},
		{"replaced on the day on which it was given", given("a 10 10 50 1 1; b 10 10 50 1 1 a"), map[int]string{10: "b", 49: "b"}},
		{"in the order of the list", given("z 0 0 9 1 1; m 0 0 9 1 1; a 0 0 5 1 1; k 0 0 9 1 1"), map[int]string{0: "z m a k", 5: "z m k"}},
	} {
		for day, want := range c.wants {
			names, e := InForce(c.l, day)
			wantList(t, c.what+" on "+strconv.Itoa(day), names, e, list(want), api.OK)
		}
	}
}

func TestForbiddenAndWhy(t *testing.T) {
	l := given("rest 10 10 50 15 6; light 20 20 30 1 4 rest; cut 20 25 40 12 1; pad 20 25 60 10 9")
	for _, c := range []struct {
		day, foot, want int
		why             map[int]string
	}{
		{9, 0, 0, nil},
		{15, 0, 6, map[int]string{api.JNail: "rest", api.JHot: "rest"}},
		{15, 3, 6, map[int]string{api.JNail: "rest", api.JHot: "rest"}},
		{20, 0, 4, map[int]string{api.JHot: "light"}},
		{20, 1, 0, nil},
		{25, 0, 4, map[int]string{api.JHot: "light"}},
		{25, 1, 9, map[int]string{api.JTrim: "pad", api.JPad: "pad"}},
		{25, 2, 1, map[int]string{api.JTrim: "cut"}},
		{25, 3, 9, map[int]string{api.JTrim: "cut pad", api.JPad: "pad"}},
		{45, 3, 9, map[int]string{api.JTrim: "pad", api.JPad: "pad"}},
		{60, 3, 0, nil},
	} {
		what := strconv.Itoa(c.day) + " " + strconv.Itoa(c.foot)
		jobs, e := Forbidden(l, c.day, c.foot)
		wantValue(t, "Forbidden "+what, jobs, e, c.want, api.OK)
		for _, job := range allFour {
			names, e := Why(l, c.day, c.foot, job)
			wantList(t, "Why "+what+" "+strconv.Itoa(job), names, e, list(c.why[job]), api.OK)
		}
	}
}

func TestAllowed(t *testing.T) {
	for _, c := range []struct {
		what           string
		l              []api.Rule
		c              api.Consent
		day, foot, job int
		want           bool
	}{
		{"consent and no orders", nil, api.Consent{Jobs: 2, Until: 5}, 4, 0, api.JNail, true},
		{"the consent is over", nil, api.Consent{Jobs: 2, Until: 5}, 5, 0, api.JNail, false},
		{"another job's consent", nil, api.Consent{Jobs: 13, Until: 5}, 4, 0, api.JNail, false},
		{"no consent", nil, api.Consent{}, 0, 0, api.JTrim, false},
		{"all of the consent", nil, api.Consent{Jobs: 15, Until: 100000}, 99999, 3, api.JPad, true},
		{"no consent has the last day", nil, api.Consent{Jobs: 15, Until: 100000}, 100000, 3, api.JPad, false},
		{"forbidden", example(), api.Consent{Jobs: 15, Until: 100}, 15, 3, api.JNail, false},
		{"another job is forbidden", example(), api.Consent{Jobs: 15, Until: 100}, 15, 3, api.JTrim, true},
		{"before the order", example(), api.Consent{Jobs: 15, Until: 100}, 9, 3, api.JNail, true},
		{"the order is replaced", example(), api.Consent{Jobs: 15, Until: 100}, 20, 0, api.JNail, true},
		{"the other order forbids", example(), api.Consent{Jobs: 15, Until: 100}, 20, 0, api.JHot, false},
		{"on another foot", example(), api.Consent{Jobs: 15, Until: 100}, 20, 1, api.JHot, true},
	} {
		ok, e := Allowed(c.l, c.c, c.day, c.foot, c.job)
		wantValue(t, c.what, ok, e, c.want, api.OK)
	}
}

// 6.2

func TestNext(t *testing.T) {
	all := api.Consent{Jobs: 15, Until: 100000}
	for _, c := range []struct {
		what            string
		l               []api.Rule
		c               api.Consent
		from, foot, job int
		want            int
		e               api.Errno
	}{
		{"at once", nil, all, 7, 0, 1, 7, api.OK},
		{"on the last day that can be", nil, all, 99999, 0, 1, 99999, api.OK},
		{"no day has a consent", nil, all, 100000, 0, 1, 0, api.ErrNone},
		{"the consent does not have the job", nil, api.Consent{Jobs: 14, Until: 100000}, 0, 0, 1, 0, api.ErrNone},
		{"the consent is over", nil, api.Consent{Jobs: 15, Until: 7}, 7, 0, 1, 0, api.ErrNone},
		{"before the orders", example(), all, 0, 0, api.JNail, 0, api.OK},
		{"behind the replaced order", example(), all, 10, 0, api.JNail, 20, api.OK},
		{"behind both orders", example(), all, 15, 0, api.JHot, 30, api.OK},
		{"behind one order, on another foot", example(), all, 15, 1, api.JHot, 20, api.OK},
		{"between two orders", given("a 0 10 20 1 1; b 0 21 30 1 1"), all, 12, 0, 1, 20, api.OK},
		{"orders without a gap", given("a 0 10 20 1 1; b 0 20 30 1 1; c 0 25 40 1 1"), all, 12, 0, 1, 40, api.OK},
		{"the consent is over first", example(), api.Consent{Jobs: 15, Until: 20}, 10, 0, api.JNail, 0, api.ErrNone},
		{"the consent is just not over", example(), api.Consent{Jobs: 15, Until: 21}, 10, 0, api.JNail, 20, api.OK},
		{"forbidden to the end", given("a 0 10 100000 15 15"), all, 10, 0, 1, 0, api.ErrNone},
		{"not given yet", given("a 5 0 10 1 1"), all, 3, 0, 1, 3, api.OK},
	} {
		day, e := Next(c.l, c.c, c.from, c.foot, c.job)
		wantValue(t, c.what, day, e, c.want, c.e)
	}
}

func TestFree(t *testing.T) {
	l := given("rest 10 10 50 15 6; light 20 20 30 1 4 rest; cut 20 25 40 12 1; pad 20 25 60 10 9")
	for _, c := range []struct {
		what            string
		c               api.Consent
		day, jobs, want int
	}{
		{"no order in force", api.Consent{Jobs: 15, Until: 100}, 9, 15, 15},
		{"all feet are forbidden", api.Consent{Jobs: 15, Until: 100}, 15, 2, 0},
		{"one of the jobs is forbidden", api.Consent{Jobs: 15, Until: 100}, 15, 3, 0},
		{"none of the jobs is forbidden", api.Consent{Jobs: 15, Until: 100}, 15, 9, 15},
		{"all but one foot", api.Consent{Jobs: 15, Until: 100}, 20, 4, 14},
		{"trim", api.Consent{Jobs: 15, Until: 100}, 25, 1, 1},
		{"pad", api.Consent{Jobs: 15, Until: 100}, 25, 8, 5},
		{"hot and pad", api.Consent{Jobs: 15, Until: 100}, 25, 12, 4},
		{"trim and hot", api.Consent{Jobs: 15, Until: 100}, 25, 5, 0},
		{"the consent has one of two jobs", api.Consent{Jobs: 1, Until: 100}, 9, 3, 0},
		{"the consent has just the jobs", api.Consent{Jobs: 3, Until: 100}, 9, 3, 15},
		{"the consent is over", api.Consent{Jobs: 15, Until: 9}, 9, 1, 0},
		{"no jobs", api.Consent{Jobs: 15, Until: 100}, 25, 0, 15},
		{"no jobs, the consent is over", api.Consent{Jobs: 15, Until: 9}, 25, 0, 15},
		{"no jobs and no consent", api.Consent{}, 100000, 0, 15},
	} {
		feet, e := Free(l, c.c, c.day, c.jobs)
		wantValue(t, c.what, feet, e, c.want, api.OK)
	}
}

func TestChanges(t *testing.T) {
	for _, c := range []struct {
		what     string
		l        []api.Rule
		from, to int
		want     []int
	}{
		{"no orders", nil, 0, 100000, nil},
		{"the example", example(), 0, 100000, ints(10, 20, 30)},
		{"not the first day", example(), 10, 29, ints(20)},
		{"but the last one", example(), 9, 30, ints(10, 20, 30)},
		{"no days", example(), 10, 10, nil},
		{"no days at the end", given("a 0 0 100000 1 1"), 100000, 100000, nil},
		{"no days at the beginning", given("a 0 0 100000 1 1"), 0, 0, nil},
		{"the last day of all", given("a 0 0 100000 1 1"), 0, 100000, ints(100000)},
		{"the order begins when it is given", given("a 20 10 30 1 1"), 0, 50, ints(20, 30)},
		{"an order that is never in force", given("a 30 10 30 1 1"), 0, 50, nil},
		{"others are in force, forbidding the same", given("a 0 10 20 1 1; b 0 20 30 1 1"), 0, 50, ints(10, 20, 30)},
		{"replaced by one with the same days", given("a 0 10 50 1 1; b 20 10 50 1 1 a"), 0, 100, ints(10, 20, 50)},
		{"replaced before it begins", given("a 0 10 50 1 1; b 5 20 30 1 1 a"), 0, 100, ints(20, 30)},
		{"replaced by one whose days are over", given("a 0 10 50 1 1; b 20 1 2 1 1 a"), 0, 100, ints(10, 20)},
		{"two at once", given("a 0 10 20 1 1; b 0 10 20 1 1"), 0, 50, ints(10, 20)},
	} {
		days, e := Changes(c.l, c.from, c.to)
		wantList(t, c.what, days, e, c.want, api.OK)
	}
}

func TestChangesErrors(t *testing.T) {
	check := func(l []api.Rule, from, to int, want api.Errno) {
		t.Helper()
		days, e := Changes(l, from, to)
		wantList(t, "Changes", days, e, nil, want)
	}
	for _, l := range badOrders() {
		check(l, 0, 100, api.ErrInvalid)
		check(l, 5, -1, api.ErrInvalid)
	}
	for _, n := range noDays {
		check(example(), n, 100, api.ErrRange)
		check(example(), 0, n, api.ErrRange)
		check(example(), n, n, api.ErrRange)
	}
	check(example(), 11, 10, api.ErrRange)
	check(nil, 100000, 0, api.ErrRange)
}

// P6.2 and P6.3: every day and foot, against the chapter's own words.

func TestDaysAgainstBrute(t *testing.T) {
	r := sample()
	count := map[string]int{}
	for range 200 {
		l, c := someOrders(r, 8), someConsent(r)
		var changed []int
		for day := range 60 {
			names, e := InForce(l, day)
			wantList(t, "InForce", names, e, bruteNames(bruteInForce(l, day)), api.OK)
			if day > 0 && !slices.Equal(bruteNames(bruteInForce(l, day-1)), names) {
				changed = append(changed, day)
			}
			checkFeet(t, l, c, day, count)
		}
		from := r.Intn(60)
		to := from + r.Intn(60-from)
		days, e := Changes(l, from, to)
		wantList(t, "Changes", days, e, slices.DeleteFunc(changed, func(day int) bool { return day <= from || day > to }), api.OK)
		if t.Failed() {
			t.Fatal("for", l, c, from, to)
		}
	}
	for _, kind := range list("allowed forbidden later never") {
		if count[kind] < 1000 {
			t.Error("too few of a kind:", count)
		}
	}
}

// checkFeet holds what is asked about the feet on a day against the chapter's own words, and counts the kinds of what comes out.
func checkFeet(t *testing.T, l []api.Rule, c api.Consent, day int, count map[string]int) {
	t.Helper()
	for foot := range 4 {
		jobs, e := Forbidden(l, day, foot)
		wantValue(t, "Forbidden", jobs, e, bruteForbidden(l, day, foot), api.OK)
		for _, job := range allFour {
			ok, e := Allowed(l, c, day, foot, job)
			wantValue(t, "Allowed", ok, e, bruteAllowed(l, c, day, foot, job), api.OK)
			why, e := Why(l, day, foot, job)
			if e != api.OK || ok != (c.Jobs&job != 0 && day < c.Until && len(why) == 0) {
				t.Error("Allowed is", ok, "but Why", why, e)
			}
			next, wantE := day, api.OK
			for next < 60 && !bruteAllowed(l, c, next, foot, job) {
				next++
			}
			if next == 60 { // no order and no consent is as late as that
				next, wantE = 0, api.ErrNone
			}
			got, e := Next(l, c, day, foot, job)
			wantValue(t, "Next", got, e, next, wantE)
			switch {
			case ok:
				count["allowed"]++
			case wantE != api.OK:
				count["never"]++
			default:
				count["later"]++
			}
			if len(why) > 0 {
				count["forbidden"]++
			}
		}
	}
	for jobs := range 16 {
		want := 0
		for foot := range 4 {
			all := true
			for _, job := range allFour {
				all = all && (jobs&job == 0 || bruteAllowed(l, c, day, foot, job))
			}
			if all {
				want |= 1 << foot
			}
		}
		feet, e := Free(l, c, day, jobs)
		wantValue(t, "Free", feet, e, want, api.OK)
	}
}

func TestMoreOrdersNeverAllowMore(t *testing.T) {
	r := sample()
	fewer := 0
	for range 600 {
		l := someOrders(r, 6)
		more := api.Rule{Name: "more", At: r.Intn(20), From: r.Intn(20), To: 20 + r.Intn(20), Feet: 1 + r.Intn(15), Jobs: 1 + r.Intn(15)}
		if len(l) > 0 {
			more.At += l[len(l)-1].At
		}
		c := api.Consent{Jobs: 15, Until: 50}
		longer, e := Added(l, more)
		wantErrno(t, "Added", e, api.OK)
		for day := range 45 {
			for jobs := range 16 {
				before, _ := Free(l, c, day, jobs)
				after, e := Free(longer, c, day, jobs)
				if e != api.OK || after&^before != 0 {
					t.Fatal("Free of", jobs, "on", day, "is", before, "and then", after, e, "for", longer)
				}
				if after != before {
					fewer++
				}
			}
		}
	}
	if fewer < 1000 {
		t.Error("only", fewer, "days on which the order matters")
	}
}

// P6.4

func TestOneOfAChainIsInForce(t *testing.T) {
	r := sample()
	long := 0
	for range 1000 {
		l := someOrders(r, 10)
		for _, rule := range l {
			chain, e := Chain(l, rule.Name)
			wantErrno(t, "Chain", e, api.OK)
			if len(chain) > 2 {
				long++
			}
			for day := range 60 {
				names, _ := InForce(l, day)
				both := slices.DeleteFunc(names, func(name string) bool { return !slices.Contains(chain, name) })
				if len(both) > 1 {
					t.Fatal(both, "on", day, "of", l)
				}
			}
		}
	}
	if long < 500 {
		t.Error("only", long, "long chains")
	}
}
