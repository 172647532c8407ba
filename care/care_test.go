package care

import (
	"testing"

	"clinch/api"
)

// 6.1

func TestName(t *testing.T) {
	for _, s := range []string{"a", "z", "rest", "a_", "a0", "z9", "a__", "a_9z", "abcdefghijklmnop", "a123456789012345"} {
		if !Name(s) {
			t.Errorf("no name: %q", s)
		}
	}
	for _, s := range badNames() {
		if Name(s) {
			t.Errorf("a name: %.20q", s)
		}
	}
	for first := range 256 {
		for second := range 256 {
			s := string([]byte{byte(first), byte(second)})
			if Name(s) != pattern.MatchString(s) || Name(s[:1]) != pattern.MatchString(s[:1]) {
				t.Fatalf("Name of %q is %t, of its first byte %t", s, Name(s), Name(s[:1]))
			}
		}
	}
}

func TestValidRules(t *testing.T) {
	for _, l := range [][]api.Rule{
		nil,
		{},
		example(),
		given("a 0 0 1 1 1"),
		given("a 100000 99999 100000 15 15"),
		given("a_0 5 6 7 8 8"),
		given("a 50 6 7 1 1"), // given when its days are over
		given("a 5 6 7 1 1; b 5 6 7 1 1"),
		given("a 5 6 7 1 1; b 5 6 7 1 1 a; c 5 6 7 1 1 b"),
		given("a 5 6 7 1 1; b 6 6 7 1 1; c 7 6 7 1 1 a; d 7 6 7 1 1 b"),
		many(100),
	} {
		if !ValidRules(l) {
			t.Error("not valid:", l)
		}
	}
	for _, l := range badOrders() {
		if ValidRules(l) {
			t.Error("valid:", l[:min(len(l), 5)])
		}
	}
}

func TestValidRulesAgainstBrute(t *testing.T) {
	r := sample()
	count := map[bool]int{}
	for range 50000 {
		l := someOrders(r, 6)
		for range r.Intn(3) {
			if len(l) > 0 {
				change(r, &l[r.Intn(len(l))])
			}
		}
		got := ValidRules(l)
		if got != bruteValid(l) {
			t.Fatal("ValidRules is", got, "of", l)
		}
		count[got]++
	}
	if count[true] < 5000 || count[false] < 5000 {
		t.Error("too few of a kind:", count)
	}
}

func TestValidConsent(t *testing.T) {
	for _, c := range []api.Consent{{}, {Jobs: 15, Until: 100000}, {Jobs: 0, Until: 100000}, {Jobs: 15}, {Jobs: 6, Until: 900}} {
		if !ValidConsent(c) {
			t.Error("not valid:", c)
		}
	}
	for _, c := range badConsents() {
		if ValidConsent(c) {
			t.Error("valid:", c)
		}
	}
}

// TestErrorsOfAll holds the errors that several calls share against each call: orders, then a consent, then numbers.
func TestErrorsOfAll(t *testing.T) {
	good := api.Consent{Jobs: 15, Until: 100000}
	check := func(l []api.Rule, c api.Consent, day, foot, job, jobs int, wants map[string]api.Errno) {
		t.Helper()
		names, e := InForce(l, day)
		wantList(t, "InForce", names, e, nil, wants["InForce"])
		bits, e := Forbidden(l, day, foot)
		wantValue(t, "Forbidden", bits, e, 0, wants["Forbidden"])
		names, e = Why(l, day, foot, job)
		wantList(t, "Why", names, e, nil, wants["Why"])
		ok, e := Allowed(l, c, day, foot, job)
		wantValue(t, "Allowed", ok, e, false, wants["Allowed"])
		next, e := Next(l, c, day, foot, job)
		wantValue(t, "Next", next, e, 0, wants["Next"])
		bits, e = Free(l, c, day, jobs)
		wantValue(t, "Free", bits, e, 0, wants["Free"])
	}
	each := func(calls string, e api.Errno) map[string]api.Errno {
		wants := map[string]api.Errno{}
		for _, call := range list(calls) {
			wants[call] = e
		}
		return wants
	}
	// No order is in force and there is no consent: what is asked is as good as nothing.
	quiet := given("a 5 6 7 1 1")
	check(quiet, api.Consent{Until: 100000}, 0, 0, 1, 15, map[string]api.Errno{"Next": api.ErrNone})
	check(nil, api.Consent{Jobs: 15}, 0, 0, 1, 15, map[string]api.Errno{"Next": api.ErrNone})
	for _, l := range badOrders() {
		check(l, good, 0, 0, 1, 15, each("InForce Forbidden Why Allowed Next Free", api.ErrInvalid))
		check(l, api.Consent{Jobs: -1}, -1, -1, -1, -1, each("InForce Forbidden Why Allowed Next Free", api.ErrInvalid))
	}
	for _, c := range badConsents() {
		check(quiet, c, 0, 0, 1, 15, each("Allowed Next Free", api.ErrInvalid))
		check(quiet, c, 0, 0, 1, 0, each("Allowed Next Free", api.ErrInvalid)) // also where nothing is asked
		wants := each("InForce Forbidden Why", api.ErrRange)
		for _, call := range list("Allowed Next Free") {
			wants[call] = api.ErrInvalid
		}
		check(quiet, c, -1, 4, 3, 16, wants)
	}
	for _, n := range noDays {
		check(quiet, good, n, 0, 1, 15, each("InForce Forbidden Why Allowed Next Free", api.ErrRange))
		check(nil, good, n, 0, 1, 0, each("InForce Forbidden Why Allowed Next Free", api.ErrRange))
	}
	none := api.Consent{}
	for _, n := range noFeet {
		check(quiet, none, 0, n, 1, 15, each("Forbidden Why Allowed Next", api.ErrRange))
	}
	for _, n := range noJobs {
		check(quiet, none, 0, 0, n, 15, each("Why Allowed Next", api.ErrRange))
	}
	for _, n := range noSets {
		wants := each("Free", api.ErrRange)
		wants["Next"] = api.ErrNone
		check(quiet, none, 0, 0, 1, n, wants)
	}
}
