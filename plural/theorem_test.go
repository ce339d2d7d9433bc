package plural_test

import (
	"math/rand"
	"testing"

	"hornbook/api"
	"hornbook/plural"
)

// someNumber is one from 0 to MaxMod, of any size, and often small.
func someNumber(r *rand.Rand) int { return r.Intn(1000001) >> r.Intn(20) }

// someRule is a valid rule of up to so many rows, relations and spans each.
func someRule(r *rand.Rand, most int) [][]api.Rel {
	var out [][]api.Rel
	for range 1 + r.Intn(most) {
		var rels []api.Rel
		for range 1 + r.Intn(most) {
			rel := api.Rel{Mod: someNumber(r), Not: r.Intn(2) == 0}
			if rel.Mod == 1 {
				rel.Mod = 0
			}
			for range 1 + r.Intn(most) {
				lo := someNumber(r)
				rel.Spans = append(rel.Spans, from(lo, min(1000000, lo+someNumber(r)*r.Intn(2))))
			}
			rels = append(rels, rel)
		}
		out = append(out, rels)
	}
	return out
}

// broken changes one number of a rule, which need not be valid then.
func broken(r *rand.Rand, rule [][]api.Rel) [][]api.Rel {
	out := copied(rule)
	row := out[r.Intn(len(out))]
	rel := &row[r.Intn(len(row))]
	span := &rel.Spans[r.Intn(len(rel.Spans))]
	number := []int{-1, 0, 1, 2, 999999, 1000000, 1000001}[r.Intn(7)]
	switch r.Intn(4) {
	case 0:
		rel.Mod = number
	case 1:
		span.Lo = number
	case 2:
		span.Hi = number
	case 3:
		rel.Spans = nil
	}
	return out
}

// checkTrip: P8.5: what Print writes, Parse reads.
func checkTrip(t *testing.T, rule [][]api.Rel) {
	t.Helper()
	s, e := plural.Print(rule)
	if e != api.OK {
		return
	}
	if got, e, at := plural.Parse(s); !same(got, rule) || e != api.OK || at != 0 {
		t.Errorf("Parse of %s answers %s, %d, %d, not %s", brief(s), short(got), e, at, short(rule))
	}
}

// checkTripBack: P8.5: what Parse reads, Print writes; P1: beside an error there is nothing.
func checkTripBack(t *testing.T, s string) {
	t.Helper()
	rule, e, at := plural.Parse(s)
	if e != api.OK {
		if len(rule) > 0 {
			t.Errorf("Parse of %s answers %s beside %d", brief(s), short(rule), e)
		}
		return
	}
	if !slowRight(rule) || at != 0 {
		t.Errorf("Parse of %s answers %s and %d, which is not valid", brief(s), short(rule), at)
	}
	if again, e := plural.Print(rule); again != s || e != api.OK {
		t.Errorf("Print of what Parse answers for %s is %s, %d", brief(s), brief(again), e)
	}
}

// TestTrips: P8.5, and P8.1 to P8.3, for many rules, right and wrong, and for their texts with one byte changed.
func TestTrips(t *testing.T) {
	r := rand.New(rand.NewSource(1))
	for range 1500 {
		rule := someRule(r, 1+r.Intn(4))
		checkTrip(t, rule)
		checkDefined(t, "any", rule)
		checkDefined(t, "broken", broken(r, rule))
		s := written(rule)
		checkTripBack(t, s)
		at := r.Intn(len(s))
		other := s[:at] + " iorand%=!.,0123456789"[r.Intn(22):][:1] + s[at+1:]
		checkTripBack(t, other)
		checkParseDefined(t, "changed", other)
	}
}

// TestShortTexts: P8.2 and P8.5 for every text that follows the beginning of one by up to four bytes.
func TestShortTexts(t *testing.T) {
	const letters = " i%=!.,or01"
	var follow func(s string, left int)
	follow = func(s string, left int) {
		checkParseDefined(t, "short", s)
		checkTripBack(t, s)
		if left == 0 || !begins(s) {
			return
		}
		for i := range len(letters) {
			follow(s+letters[i:i+1], left-1)
		}
	}
	for _, s := range []string{"", "i % 1", "i = 1", "i % 100", "i = 1,10", "i != 1..2"} {
		follow(s, 4)
	}
}

// FuzzParse: P8.2, P8.3 and P8.5 for any bytes.
func FuzzParse(f *testing.F) {
	for _, s := range append(texts, "", "i % 1 = 0", "i % 0 = 0", "i = 3..3", "i = 01", "i = 1000001", "i = 1 or", "j") {
		f.Add(s, int64(-7))
	}
	f.Fuzz(func(t *testing.T, s string, n int64) {
		checkParseDefined(t, "any", s)
		checkTripBack(t, s)
		if rule, e, _ := slowParse(s); e == api.OK {
			checkDefined(t, "any", rule)
			checkHolds(t, "any", rule, n, slowHolds(rule, n))
		}
	})
}
