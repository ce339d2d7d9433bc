package pattern_test

import (
	"math/rand"
	"strconv"
	"strings"
	"testing"

	"hornbook/api"
	"hornbook/pattern"
)

// someText is a text of a few bytes, of any, and often of those that are quoted.
func someText(r *rand.Rand) string {
	var b strings.Builder
	for range 1 + r.Intn(6) {
		switch r.Intn(4) {
		case 0:
			b.WriteByte(byte(r.Intn(256)))
		case 1:
			b.WriteByte("'{}#"[r.Intn(4)])
		default:
			b.WriteByte("ab ,=0_"[r.Intn(7)])
		}
	}
	return b.String()
}

func someName(r *rand.Rand) string {
	const first, behind = "abcz", "abz09_"
	b := []byte{first[r.Intn(len(first))]}
	for range r.Intn(32) >> r.Intn(6) {
		b = append(b, behind[r.Intn(len(behind))])
	}
	return string(b)
}

// somePattern is a valid one, of parts inside one another to a depth.
func somePattern(r *rand.Rand, depth int, inPlural bool) []api.Part {
	var l []api.Part
	for range r.Intn(4) {
		switch kind := 1 + r.Intn(5); {
		case kind == api.PText && (len(l) == 0 || l[len(l)-1].Kind != api.PText):
			l = append(l, text(someText(r)))
		case kind == api.PArg:
			l = append(l, arg(someName(r)))
		case kind == api.PHash && inPlural:
			l = append(l, hash())
		case kind == api.PPlural && depth > 0:
			l = append(l, plural(someName(r), someCases(r, depth, true, func() string {
				return []string{"=" + strconv.Itoa(r.Intn(1000001)>>r.Intn(20)), "zero", "one", "two", "few", "many"}[r.Intn(6)]
			})...))
		case kind == api.PSelect && depth > 0:
			l = append(l, choose(someName(r), someCases(r, depth, inPlural, func() string { return someName(r) })...))
		}
	}
	return l
}

// someCases are of keys as they come, each once, and of `other`.
func someCases(r *rand.Rand, depth int, inPlural bool, key func() string) []api.Case {
	var cases []api.Case
	had := map[string]bool{"other": true}
	for range r.Intn(4) {
		if k := key(); !had[k] {
			had[k] = true
			cases = append(cases, when(k, somePattern(r, depth-1, inPlural)...))
		}
	}
	return append(cases, when("other", somePattern(r, depth-1, inPlural)...))
}

// broken changes one thing of a list, which need not be a pattern then.
func broken(r *rand.Rand, l []api.Part) []api.Part {
	out := copied(l)
	list := out
	for len(list) > 0 {
		part := &list[r.Intn(len(list))]
		if len(part.Cases) == 0 || r.Intn(3) == 0 {
			breakPart(r, part)
			return out
		}
		list = part.Cases[r.Intn(len(part.Cases))].Kids
	}
	return append(out, hash())
}

func breakPart(r *rand.Rand, part *api.Part) {
	switch r.Intn(6) {
	case 0:
		part.Kind = r.Intn(8) - 1
	case 1:
		part.Text = []string{"", "x"}[r.Intn(2)]
	case 2:
		part.Name = []string{"", "x", "X", "0", strings.Repeat("a", 33)}[r.Intn(5)]
	case 3:
		part.Cases = part.Cases[:len(part.Cases)*r.Intn(2)]
	case 4:
		part.Cases = append(part.Cases[:len(part.Cases):len(part.Cases)], when("other"))
	case 5:
		if n := len(part.Cases); n > 0 {
			part.Cases[r.Intn(n)].Key = []string{"other", "one", "=1", "x", "=01", ""}[r.Intn(6)]
		}
	}
}

// checkTripBack: P9.4: what Parse reads, Print writes; P1: beside an error there is nothing.
func checkTripBack(t *testing.T, s string) {
	t.Helper()
	l, e, at := pattern.Parse(s)
	if e != api.OK {
		if len(l) > 0 {
			t.Errorf("Parse of %s answers %s beside %d", brief(s), short(l), e)
		}
		return
	}
	if slowRight(l) != api.OK || at != 0 {
		t.Errorf("Parse of %s answers %s and %d, which is no pattern", brief(s), short(l), at)
	}
	if again, e := pattern.Print(l); again != s || e != api.OK {
		t.Errorf("Print of what Parse answers for %s is %s, %d", brief(s), brief(again), e)
	}
}

// checkTrip: P9.4: what Print writes, Parse reads.
func checkTrip(t *testing.T, l []api.Part) {
	t.Helper()
	s, e := pattern.Print(l)
	if e != api.OK {
		return
	}
	if got, e, at := pattern.Parse(s); !same(got, l) || e != api.OK || at != 0 {
		t.Errorf("Parse of %s answers %s, %d, %d, not %s", brief(s), short(got), e, at, short(l))
	}
}

// TestTrips: P9.4, and P9.1 to P9.3, for many patterns, right and wrong, and for their texts with one byte changed.
func TestTrips(t *testing.T) {
	r := rand.New(rand.NewSource(1))
	for range 3000 {
		l := somePattern(r, r.Intn(5), false)
		checkTrip(t, l)
		checkDefined(t, "any", l)
		checkDefined(t, "broken", broken(r, l))
		s := written(l)
		if len(s) == 0 {
			continue
		}
		checkTripBack(t, s)
		at := r.Intn(len(s))
		other := s[:at] + "'{}#, =0a_\xff"[r.Intn(11):][:1] + s[at+1:]
		checkTripBack(t, other)
		checkParseDefined(t, "changed", other)
	}
}

// TestShortTexts: P9.3 and P9.4 for every text that follows the beginning of one by up to five bytes.
func TestShortTexts(t *testing.T) {
	const letters = "'{}#, a=0"
	var follow func(s string, left int)
	follow = func(s string, left int) {
		checkParseDefined(t, "short", s)
		checkTripBack(t, s)
		if _, e, _ := slowParse(s); left == 0 || e == api.ErrPattern || e == api.ErrDeep {
			return
		}
		for i := range len(letters) {
			follow(s+letters[i:i+1], left-1)
		}
	}
	for _, s := range []string{"", "{n, plural, ", "{n, select, other {", "{n, plural, other {", "{n, plural, other {}", "{n, plural, other {{s, select, other {", "{n, select, other {{m, plural, other {}}"} {
		follow(s, 5)
	}
}

// FuzzParse: P9.3 and P9.4 for any bytes.
func FuzzParse(f *testing.F) {
	for _, s := range append(texts, "", "#", "a'b", "{a", "}", "{n, plural, one {}}", "{n, select, =1 {} other {}}", "{n, plural, =01 {}}", strings.Repeat("{a, select, other {", 33)) {
		f.Add(s)
	}
	f.Fuzz(func(t *testing.T, s string) {
		checkParseDefined(t, "any", s)
		checkTripBack(t, s)
		if l, e, _ := slowParse(s); e == api.OK {
			checkDefined(t, "any", l)
		}
		if s != "" {
			checkDefined(t, "any text", parts(text(s)))
		}
	})
}
