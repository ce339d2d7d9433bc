package delta_test

import (
	"math/rand"
	"slices"
	"testing"

	"hornbook/api"
	"hornbook/delta"
)

// someDelta is a delta of any operations, all of them valid.
func someDelta(r *rand.Rand, most int) []api.Op {
	var d []api.Op
	for range r.Intn(most) {
		if r.Intn(2) == 0 {
			d = append(d, cp(r.Intn(131073)>>r.Intn(18), 1+r.Intn(131072)>>r.Intn(18)))
		} else {
			d = append(d, ins(noise(r.Intn(1000), 1+r.Intn(30))))
		}
	}
	return d
}

// checkTrip: P7.4: what Bytes writes, Parse reads, and what Parse reads, Bytes writes.
func checkTrip(t *testing.T, d []api.Op) {
	t.Helper()
	s, e := delta.Bytes(d)
	if e != api.OK {
		t.Errorf("Bytes of %s answers %d", short(d), e)
		return
	}
	got, e := delta.Parse(s)
	if e != api.OK || !slices.Equal(got, d) {
		t.Errorf("Parse of %s answers %s, %d, not %s", brief(s), short(got), e, short(d))
	}
}

func checkTripBack(t *testing.T, s string) {
	t.Helper()
	d, e := delta.Parse(s)
	if e != api.OK {
		if len(d) > 0 {
			t.Errorf("Parse of %s answers %s beside %d", brief(s), short(d), e)
		}
		return
	}
	if !slowRight(d) {
		t.Errorf("Parse of %s answers %s, which is not valid", brief(s), short(d))
	}
	if again, e := delta.Bytes(d); again != s || e != api.OK {
		t.Errorf("Bytes of what Parse answers for %s is %s, %d", brief(s), brief(again), e)
	}
}

// TestTrips: P7.4 for many deltas, and for their bytes with one byte changed.
func TestTrips(t *testing.T) {
	r := rand.New(rand.NewSource(2))
	for range 600 {
		d := someDelta(r, 40)
		checkTrip(t, d)
		checkDefined(t, "any", text(r.Intn(140000)), d)
		s, _ := written(d)
		checkTripBack(t, s)
		at := r.Intn(len(s))
		other := s[:at] + "lie:0123456789-"[r.Intn(15):][:1] + s[at+1:]
		checkTripBack(t, other)
		checkParseDefined(t, "changed", other)
	}
}

// TestTripsOfMake: P7.4: a delta that is made, written, read and applied makes the new string.
func TestTripsOfMake(t *testing.T) {
	r := rand.New(rand.NewSource(3))
	for range 500 {
		old := someText(r, 3000)
		now := edited(r, old)
		d := checkMake(t, "edited", old, now)
		checkTrip(t, d)
		s, _ := delta.Bytes(d)
		d, _ = delta.Parse(s)
		checkApply(t, "read", old, d, len(now), now, api.OK)
	}
}

// TestShortStrings: P7.3 and P7.4 for every string of up to five bytes over those that a delta's bytes are made of.
func TestShortStrings(t *testing.T) {
	const letters = "lie:01-2x"
	var follow func(s string)
	follow = func(s string) {
		checkParseDefined(t, "short", s)
		checkTripBack(t, s)
		if len(s) == 5 {
			return
		}
		for i := range len(letters) {
			follow(s + letters[i:i+1])
		}
	}
	follow("")
}

// FuzzMake: P7.2 and P7.4 for any two strings; blocks of one string are put into the other, so that there is something to copy.
func FuzzMake(f *testing.F) {
	f.Add("", "ab", "")
	f.Add(noise(1, 40), noise(1, 39), "?")
	f.Add(text(40), text(60), "y")
	f.Add(noise(2, 100), noise(3, 50), noise(4, 16))
	f.Fuzz(func(t *testing.T, a, b, c string) {
		for _, s := range [][2]string{{a, b}, {a + c + b, b + c + a}, {a + b + c, a + c + b + a}, {b + a, c + b + c}, {a + a + b, b}} {
			if len(s[0]) <= 131072 && len(s[1]) <= 131072 {
				checkMake(t, "any", s[0], s[1])
			}
		}
	})
}

// FuzzParse: P7.3 and P7.4 for any bytes.
func FuzzParse(f *testing.F) {
	for _, s := range []string{"", "le", "l1:xe", "lli1ei2ee1:xe", "lli131072ei131072eee", "i1e", "llee", "lli1ei2ei3eee", "l0:e"} {
		f.Add(s)
	}
	f.Fuzz(func(t *testing.T, s string) {
		checkParseDefined(t, "any", s)
		checkTripBack(t, s)
	})
}
