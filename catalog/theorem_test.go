package catalog_test

import (
	"math/rand"
	"slices"
	"strings"
	"testing"

	"hornbook/api"
	"hornbook/catalog"
	"hornbook/pattern"
)

// What samples are made of: so few names that changes meet what is there.
var (
	locales = []string{"", "a", "a-b", "a-b-c", "a-c", "A", "aa", "b", "en", "ru-RU", "0"}
	keys    = []string{"a", "b", "c", "-", "a.b", "Z", "_", "9", "aa"}
	texts   = []string{"", "x", "y", "{n}", "{n, plural, one {#} few {few} other {{s}}}", "{s, select, a {A} other {{m}}}", "it''s '{'", "\x00\xff", "12:e"}
	wrong   = []string{"", "{", "a--b", "a b", "#", "-", "a-", "\xff", strings.Repeat("x", 33), strings.Repeat("x", 2001)}
)

func one[T any](r *rand.Rand, of []T) T { return of[r.Intn(len(of))] }

func someEntry(r *rand.Rand) api.Entry { return entry(one(r, locales), one(r, keys), one(r, texts)) }

// someCatalog is a valid one, mostly small; now and then it is all but full, or its encoding may be too long.
func someCatalog(r *rand.Rand) []api.Entry {
	var l []api.Entry
	switch r.Intn(40) {
	case 0, 1, 2:
		l = some(190 + r.Intn(11))
	case 3:
		for i := range r.Intn(85) {
			l = append(l, entry("de", key(i), letters(1000+r.Intn(1001))))
		}
	}
	for range r.Intn(20) {
		l = append(l, someEntry(r))
	}
	l = slices.CompactFunc(sorted(l), func(a, b api.Entry) bool { return a.Locale == b.Locale && a.Key == b.Key })
	return l[:min(len(l), 200)]
}

// broken is the same list, but for something that may make it wrong.
func broken(r *rand.Rand, l []api.Entry) []api.Entry {
	l = append(slices.Clone(l), someEntry(r))
	i, j := r.Intn(len(l)), r.Intn(len(l))
	switch r.Intn(6) {
	case 0:
		l[i], l[j] = l[j], l[i]
	case 1:
		l[i].Locale = one(r, wrong)
	case 2:
		l[i].Key = one(r, wrong)
	case 3:
		l[i].Pattern = one(r, wrong)
	case 4:
		return sorted(append(l, some(201)...))
	}
	return sorted(l)
}

// someChanges mostly put what may be put and drop what is there or was put.
func someChanges(r *rand.Rand, l []api.Entry, n int) []api.Change {
	var c []api.Change
	there := slices.Clone(l)
	for range n {
		x := someEntry(r)
		if len(there) > 0 && r.Intn(3) > 0 {
			x = one(r, there)
			x.Pattern = one(r, texts)
		}
		change := put(x.Locale, x.Key, x.Pattern)
		if r.Intn(5) < 2 {
			change = drop(x.Locale, x.Key)
		}
		if r.Intn(60) == 0 {
			change.Entry = broken(r, nil)[0]
		}
		there = append(there, x)
		c = append(c, change)
	}
	return c
}

func someArgs(r *rand.Rand) []api.Arg {
	args := with(number("n", int64(r.Intn(30)-2)), word("s", one(r, keys)), word("m", "M"))
	switch r.Intn(8) {
	case 0:
		return args[:r.Intn(3)]
	case 1:
		return append(args, args[0])
	case 2:
		return with(word("n", "1"), number("s", 1), word("m", strings.Repeat("m", 8001-r.Intn(2))))
	}
	return args
}

// samples calls a test with lists and what made them; -short takes fewer.
func samples(t *testing.T, n int, test func(r *rand.Rand)) {
	t.Helper()
	if testing.Short() {
		n /= 10
	}
	for seed := range n {
		test(rand.New(rand.NewSource(int64(seed))))
		if t.Failed() {
			t.Fatalf("with the seed %d", seed)
		}
	}
}

// TestSamples: P11.1 to P11.4 by samples, right and wrong ones.
func TestSamples(t *testing.T) {
	samples(t, 1500, func(r *rand.Rand) {
		l := someCatalog(r)
		checkRight(t, "a catalog", l, api.OK)
		for _, l := range [][]api.Entry{l, broken(r, l), broken(r, broken(r, l))} {
			checkListDefined(t, "a sample", l)
			checkApplyDefined(t, "a sample", l, someChanges(r, l, r.Intn(23)))
			for range 5 {
				x := someEntry(r)
				if len(l) > 0 && r.Intn(2) == 0 {
					x = one(r, l)
				}
				locale := x.Locale + one(r, []string{"", "", "-b", "-b-c", "-", "b"})
				checkFindDefined(t, "a sample", l, strings.TrimPrefix(locale, one(r, []string{"", "-"})), x.Key, someArgs(r))
			}
		}
	})
}

// TestRoundTrip: P11.5: Parse reads what Bytes writes, and Bytes writes what Parse reads, if that is not too long.
func TestRoundTrip(t *testing.T) {
	samples(t, 2000, func(r *rand.Rand) {
		l := someCatalog(r)
		s, e := catalog.Bytes(l)
		if e == api.ErrLong && len(written(l)) > 131072 {
			return
		}
		if e != api.OK {
			t.Fatalf("Bytes of %s answers %d", brief(l), e)
		}
		again, e := catalog.Parse(s)
		if e != api.OK || !slices.Equal(again, l) {
			t.Errorf("Parse of the bytes of %s answers %s, %d", brief(l), brief(again), e)
		}
		checkWrittenAgain(t, changed(r, s))
	})
}

// changed is a text with one byte that is another, if it was not that already.
func changed(r *rand.Rand, s string) string {
	i := r.Intn(len(s))
	return s[:i] + string([]byte{one(r, []byte("lie0123456789:-aAbxz.{}#'\x00\xff"))}) + s[i+1:]
}

// checkWrittenAgain: P11.5: whatever Parse reads has these bytes, and no others.
func checkWrittenAgain(t testing.TB, s string) {
	t.Helper()
	l, e := catalog.Parse(s)
	if e != api.OK {
		return
	}
	if again, e := catalog.Bytes(l); again != s || e != api.OK {
		t.Errorf("the bytes of what Parse reads of %s are %s, %d", brief(s), brief(again), e)
	}
}

// checkSayable: P11.5: the pattern of each entry can be parsed, and Say answers no error of pattern.Parse.
func checkSayable(t testing.TB, l []api.Entry, args []api.Arg) {
	t.Helper()
	if catalog.Right(l) != api.OK {
		return
	}
	for _, x := range l {
		if _, e, _ := pattern.Parse(x.Pattern); e != api.OK {
			t.Errorf("%s is a catalog, and %s no pattern: %d", brief(l), brief(x.Pattern), e)
		}
		switch _, e := catalog.Say(l, x.Locale, x.Key, args); e {
		case api.OK, api.ErrArg, api.ErrMissing, api.ErrType, api.ErrLong:
		default:
			t.Errorf("Say of %s, %s in %s answers %d", brief(x.Locale), brief(x.Key), brief(l), e)
		}
	}
}

// TestSayable: P11.5 for catalogs that are lists as they come, that are read, and that are made by changes.
func TestSayable(t *testing.T) {
	samples(t, 500, func(r *rand.Rand) {
		l, args := someCatalog(r), someArgs(r)
		checkSayable(t, l, args)
		checkSayable(t, broken(r, l), args)
		made, e := catalog.Apply(l, someChanges(r, l, r.Intn(21)))
		if e == api.OK {
			checkSayable(t, made, args)
		}
		read, e := catalog.Parse(changed(r, written(l)))
		if e == api.OK {
			checkSayable(t, read, args)
		}
	})
	for _, s := range append(rightPatterns(), wrongPatterns()...) {
		checkSayable(t, list(entry("de", "k", s)), nil)
	}
}

// checkParts: P11.6: two lists of changes one after the other are their concatenation.
func checkParts(t testing.TB, l []api.Entry, a, b []api.Change) {
	t.Helper()
	want, wantErr := catalog.Apply(l, then(a, b))
	got, e := catalog.Apply(l, a)
	if e == api.OK {
		got, e = catalog.Apply(got, b)
	}
	if !slices.Equal(got, want) || e != wantErr {
		t.Errorf("%s and then %s make of %s %s, %d, and at once %s, %d", brief(a), brief(b), brief(l), brief(got), e, brief(want), wantErr)
	}
}

// TestParts: P11.6 for changes that are cut in two at each place.
func TestParts(t *testing.T) {
	samples(t, 1000, func(r *rand.Rand) {
		l := someCatalog(r)
		c := someChanges(r, l, r.Intn(21))
		for i := range len(c) + 1 {
			checkParts(t, l, c[:i], c[i:])
		}
	})
}

// checkFound: P11.6: what the last change of a name put is found, and what it dropped is not.
func checkFound(t testing.TB, l []api.Entry, c []api.Change) {
	t.Helper()
	after, e := catalog.Apply(l, c)
	if e != api.OK {
		return
	}
	if e := catalog.Right(after); e != api.OK {
		t.Errorf("%s makes of %s no catalog: %s", brief(c), brief(l), brief(after))
	}
	for i, x := range c {
		again := func(y api.Change) bool { return y.Locale == x.Locale && y.Key == x.Key }
		if slices.ContainsFunc(c[i+1:], again) {
			continue
		}
		got, e := catalog.Find(after, x.Locale, x.Key)
		if !x.Drop && (got != x.Entry || e != api.OK) {
			t.Errorf("behind %s, Find of %s, %s in %s answers %s, %d", brief(c), brief(x.Locale), brief(x.Key), brief(after), brief(list(got)), e)
		}
		if x.Drop && got.Key != "" && got.Locale == x.Locale {
			t.Errorf("behind %s, %s is still there", brief(c), brief(list(got)))
		}
	}
	for _, x := range l {
		named := func(y api.Change) bool { return y.Locale == x.Locale && y.Key == x.Key }
		if got, e := catalog.Find(after, x.Locale, x.Key); !slices.ContainsFunc(c, named) && (got != x || e != api.OK) {
			t.Errorf("behind %s, which do not name it, %s is %s, %d", brief(c), brief(list(x)), brief(list(got)), e)
		}
	}
}

// TestFound: P11.6 for changes of all kinds.
func TestFound(t *testing.T) {
	samples(t, 1000, func(r *rand.Rand) {
		l := someCatalog(r)
		checkFound(t, l, someChanges(r, l, r.Intn(21)))
	})
	for _, x := range rising() {
		checkFound(t, nil, changes(put(x.Locale, x.Key, x.Pattern)))
		checkFound(t, rising(), changes(put(x.Locale, x.Key, "new")))
	}
}

// TestAllSequences: P11.2, P11.6 for each sequence of up to five changes of two entries.
func TestAllSequences(t *testing.T) {
	each := changes(put("", "a", "1"), put("", "a", "2"), drop("", "a"), put("de", "a", "1"), drop("de", "a"))
	starts := [][]api.Entry{nil, list(entry("", "a", "0")), list(entry("", "a", "0"), entry("de", "a", "0"))}
	var follow func(c []api.Change, left int)
	follow = func(c []api.Change, left int) {
		for _, l := range starts {
			checkApplyDefined(t, "a sequence", l, c)
			checkParts(t, l, c[:len(c)/2], c[len(c)/2:])
			checkFound(t, l, c)
		}
		for _, x := range each {
			if left > 0 {
				follow(append(slices.Clone(c), x), left-1)
			}
		}
	}
	follow(nil, 5)
}

// FuzzParse: P11.3, P11.5 for any text.
func FuzzParse(f *testing.F) {
	for _, l := range [][]api.Entry{nil, both(), three(), rising(), some(3), list(entry("", "", "{")), list(both()[1], both()[0])} {
		f.Add(written(l))
	}
	for _, s := range []string{"", "x", "i0e", "llee", "ll0:1:aee", "ll0:1:a1:b0:ee"} {
		f.Add(s)
	}
	f.Fuzz(func(t *testing.T, s string) {
		checkParseDefined(t, "any text", s)
		checkWrittenAgain(t, s)
		if l, e := catalog.Parse(s); e == api.OK {
			checkListDefined(t, "any text", l)
			checkSayable(t, l, nil)
		}
	})
}

// FuzzApply: P11.1, P11.2, P11.4, P11.6 for any entry among others, put and dropped.
func FuzzApply(f *testing.F) {
	for _, x := range append(rising(), entry("de-", "k", "x"), entry("de", "k ", "x"), entry("de", "k", "{")) {
		f.Add(x.Locale, x.Key, x.Pattern, "de-CH-x")
	}
	f.Fuzz(func(t *testing.T, locale, key, text, asked string) {
		x := entry(locale, key, text)
		for _, l := range [][]api.Entry{nil, three(), crowded(200)} {
			for _, c := range [][]api.Change{changes(put(locale, key, text)), changes(drop(locale, key)), changes(dropping(x)), changes(put(locale, key, ""), drop(locale, key), put(locale, key, text))} {
				checkApplyDefined(t, "any entry", l, c)
				checkParts(t, l, c[:len(c)/2], c[len(c)/2:])
				checkFound(t, l, c)
			}
			after := sorted(append(slices.Clone(l), x))
			checkListDefined(t, "any entry", after)
			for _, where := range []string{asked, locale, locale + "-" + asked} {
				checkFindDefined(t, "any entry", after, where, key, with(word("a", asked)))
			}
			checkSayable(t, after, nil)
		}
	})
}
