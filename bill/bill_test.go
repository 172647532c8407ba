package bill

import (
	"regexp"
	"testing"

	"clinch/api"
)

// 9.1

func TestName(t *testing.T) {
	for _, s := range []string{"a", "z", "ann", "a_", "a0", "z9", "a__", "a_9z", "abcdefghijklmnop", "a123456789012345"} {
		if !Name(s) {
			t.Errorf("no name: %q", s)
		}
	}
	for _, s := range badNames() {
		if Name(s) {
			t.Errorf("a name: %.20q", s)
		}
	}
	pattern := regexp.MustCompile(`\A[a-z][a-z0-9_]{0,15}\z`)
	for first := range 256 {
		for second := range 256 {
			s := string([]byte{byte(first), byte(second)})
			if Name(s) != pattern.MatchString(s) || Name(s[:1]) != pattern.MatchString(s[:1]) {
				t.Fatalf("Name of %q is %t, of its first byte %t", s, Name(s), Name(s[:1]))
			}
		}
	}
}

func TestValidPrices(t *testing.T) {
	for _, p := range [][4]int{{}, {100000, 100000, 100000, 100000}, {0, 100000, 1, 99999}, {2000, 1500, 800, 1200}} {
		if !ValidPrices(p) {
			t.Error("not valid:", p)
		}
	}
	for _, p := range badPrices() {
		if ValidPrices(p) {
			t.Error("valid:", p)
		}
	}
}

func badPrices() [][4]int {
	var l [][4]int
	for _, n := range noPrices {
		for i := range 4 {
			p := [4]int{2000, 1500, 800, 1200}
			p[i] = n
			l = append(l, p)
		}
	}
	return l
}

func TestCharge(t *testing.T) {
	prices := [4]int{1, 20, 300, 4000}
	for _, c := range []struct {
		p, feet [4]int
		want    int
	}{
		{prices, [4]int{}, 0},
		{prices, [4]int{api.JTrim}, 1},
		{prices, [4]int{0, api.JNail}, 20},
		{prices, [4]int{0, 0, api.JHot}, 300},
		{prices, [4]int{0, 0, 0, api.JPad}, 4000},
		{prices, [4]int{1, 2, 4, 8}, 4321},
		{prices, [4]int{8, 8, 8, 8}, 16000},
		{prices, [4]int{15, 15, 15, 15}, 4 * 4321},
		{prices, [4]int{6, 6, 0, 9}, 320 + 320 + 4001},
		{[4]int{}, [4]int{15, 15, 15, 15}, 0},
		{[4]int{100000, 100000, 100000, 100000}, [4]int{15, 15, 15, 15}, 1600000},
	} {
		n, e := Charge(c.p, c.feet)
		wantValue(t, "Charge", n, e, c.want, api.OK)
	}
	for _, n := range noSets {
		for i := range 4 {
			var feet [4]int
			feet[i] = n
			charge, e := Charge(prices, feet)
			wantValue(t, "Charge of a wrong set", charge, e, 0, api.ErrRange)
		}
	}
	for _, p := range badPrices() {
		for _, feet := range [][4]int{{}, {15, 15, 15, 15}, {0, 0, 0, 16}, {-1}} {
			n, e := Charge(p, feet)
			wantValue(t, "Charge by wrong prices", n, e, 0, api.ErrInvalid)
		}
	}
}

func TestChargeOfAllSets(t *testing.T) {
	r := sample()
	for range 20000 {
		var p, feet [4]int
		for i := range 4 {
			p[i], feet[i] = r.Intn(100001), r.Intn(16)
		}
		want := 0
		for _, jobs := range feet {
			for i, job := range ints(api.JTrim, api.JNail, api.JHot, api.JPad) {
				if jobs&job != 0 {
					want += p[i]
				}
			}
		}
		n, e := Charge(p, feet)
		wantValue(t, "Charge", n, e, want, api.OK)
	}
}

func TestTax(t *testing.T) {
	for _, c := range []struct{ amount, t, want int }{
		{0, 0, 0},
		{0, 1000, 0},
		{1000000000, 0, 0},
		{1000000000, 1000, 1000000000},
		{1000000000, 999, 999000000},
		{999999999, 200, 200000000}, // 199999999.8
		{100, 200, 20},
		{1, 499, 0},
		{1, 500, 1}, // a half
		{1, 501, 1},
		{3, 500, 2}, // a half
		{5, 500, 3}, // a half
		{4, 125, 1}, // a half
		{12, 125, 2},
		{2, 200, 0}, // 0.4
		{3, 200, 1}, // 0.6
		{12345, 175, 2160},
		{999, 1, 1},
		{499, 1, 0},
		{500, 1, 1},
	} {
		n, e := Tax(c.amount, c.t)
		wantValue(t, "Tax", n, e, c.want, api.OK)
	}
	for _, n := range noTaxed {
		for _, m := range ints(0, 200, 1000, -1, 1001) {
			tax, e := Tax(n, m)
			wantValue(t, "Tax of a wrong amount", tax, e, 0, api.ErrRange)
		}
	}
	for _, n := range noTaxes {
		for _, m := range ints(0, 100, 1000000000) {
			tax, e := Tax(m, n)
			wantValue(t, "a wrong Tax", tax, e, 0, api.ErrRange)
		}
	}
}

func TestTaxIsTheNearest(t *testing.T) {
	r := sample()
	for range 20000 {
		amount, thousandths := r.Intn(1000000001), r.Intn(1001)
		if r.Intn(2) == 0 {
			amount = r.Intn(50)
		}
		n, e := Tax(amount, thousandths)
		// At most half a penny above the exact tax, and less than half a penny below it.
		if over := 2000*n - 2*amount*thousandths; e != api.OK || over > 1000 || over <= -1000 {
			t.Fatal("Tax of", amount, thousandths, "is", n, e)
		}
	}
}
