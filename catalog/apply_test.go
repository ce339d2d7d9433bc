package catalog_test

import (
	"slices"
	"testing"

	"hornbook/api"
	"hornbook/catalog"
)

// three is a catalog whose entries leave room ahead of them, behind them and between them.
func three() []api.Entry {
	return list(entry("", "m", "M"), entry("de", "m", "{a}"), entry("de-CH", "m", "x"))
}

// TestNoChanges: P11.2 for an empty list of changes.
func TestNoChanges(t *testing.T) {
	for _, l := range [][]api.Entry{nil, list(), both(), three(), rising(), some(1), some(199), some(200)} {
		checkApply(t, "nil", l, nil, l, api.OK)
		checkApply(t, "empty", l, changes(), l, api.OK)
	}
}

// TestPut: P11.2 for a change that inserts first, last and in the middle, or replaces.
func TestPut(t *testing.T) {
	l := three()
	for _, x := range []api.Entry{
		entry("", "a", "first"), entry("", "lz", "first"), entry("", "m-", "second"), entry("", "z", "second"), entry("0", "a", "second"), entry("DE", "z", "second"), entry("d", "z", "second"), entry("de", "a", "second"), entry("de", "l", "second"),
		entry("de", "m0", "third"), entry("de", "z", "third"), entry("de-A", "m", "third"), entry("de-CH", "a", "third"), entry("de-CH", "M", "third"), entry("de-CH", "mm", "last"), entry("de-CH-x", "m", "last"), entry("de0", "m", "last"), entry("zz", "a", "last"), entry("zz", "a", ""),
	} {
		want := sorted(append(three(), x))
		checkApply(t, "inserted", l, changes(put(x.Locale, x.Key, x.Pattern)), want, api.OK)
		checkApplyDefined(t, "inserted", l, changes(put(x.Locale, x.Key, x.Pattern)))
		checkApply(t, "inserted into nothing", nil, changes(put(x.Locale, x.Key, x.Pattern)), list(x), api.OK)
	}
	for i, x := range l {
		for _, s := range []string{"new", "", "{a}", x.Pattern, "{n, plural, other {#}}"} {
			checkApply(t, "replaced", l, changes(put(x.Locale, x.Key, s)), at(l, i, entry(x.Locale, x.Key, s)), api.OK)
		}
	}
	for i, x := range rising() {
		checkApply(t, "replaced", rising(), changes(put(x.Locale, x.Key, "new")), at(rising(), i, entry(x.Locale, x.Key, "new")), api.OK)
		without := slices.Delete(rising(), i, i+1)
		checkApply(t, "inserted again", without, changes(put(x.Locale, x.Key, x.Pattern)), rising(), api.OK)
	}
}

// TestDrop: P11.2 for a change that drops the first, the last, one in the middle, or the only one.
func TestDrop(t *testing.T) {
	for i, x := range three() {
		checkApply(t, "dropped", three(), changes(drop(x.Locale, x.Key)), slices.Delete(three(), i, i+1), api.OK)
		checkApply(t, "the only one", list(x), changes(drop(x.Locale, x.Key)), nil, api.OK)
		checkApply(t, "twice", three(), changes(drop(x.Locale, x.Key), drop(x.Locale, x.Key)), nil, api.ErrKey)
		checkApply(t, "the only one, twice", list(x), changes(drop(x.Locale, x.Key), drop(x.Locale, x.Key)), nil, api.ErrKey)
	}
	for i, x := range rising() {
		checkApply(t, "dropped", rising(), changes(drop(x.Locale, x.Key)), slices.Delete(rising(), i, i+1), api.OK)
	}
	for _, i := range []int{0, 1, 99, 100, 198, 199} {
		x := some(200)[i]
		checkApply(t, "dropped of 200", some(200), changes(drop(x.Locale, x.Key)), slices.Delete(some(200), i, i+1), api.OK)
	}
	checkApply(t, "an empty pattern", list(entry("", "a", "")), changes(drop("", "a")), nil, api.OK)
	checkApply(t, "all", three(), changes(drop("de", "m"), drop("", "m"), drop("de-CH", "m")), nil, api.OK)
}

// TestDropOfNothing: P11.2 for a drop of what is not there, or could not be.
func TestDropOfNothing(t *testing.T) {
	for _, l := range [][]api.Entry{nil, three(), some(200)} {
		for _, locale := range append(wrongLocales(), "", "d", "de", "de-C", "de-CH-x", "DE", "De", "de-ch", "fr", "zz") {
			for _, key := range append(wrongKeys(), "M", "mm", "l", "n", "k", "K1000") {
				checkApply(t, "nothing", l, changes(drop(locale, key)), nil, api.ErrKey)
			}
		}
	}
	for _, locale := range append(wrongLocales(), "d", "DE", "fr", "de-", "de-C", "de-CH-x") {
		checkApply(t, "a key of others", three(), changes(drop(locale, "m")), nil, api.ErrKey)
	}
	checkApply(t, "nothing at all", nil, changes(drop("", "")), nil, api.ErrKey)
}

// TestDropWithPattern: P11.2 for a drop that has a Pattern, of an entry that is there or not.
func TestDropWithPattern(t *testing.T) {
	for _, s := range []string{"x", "M", "{a}", "{", " ", "\x00", letters(2000), letters(2001)} {
		for _, l := range [][]api.Entry{nil, three(), some(200)} {
			for _, name := range []api.Entry{entry("", "m", s), entry("de", "m", s), entry("de-CH", "m", s), entry("de", "no", s), entry("", "", s), entry("-", " ", s), entry("", key(0), s), entry(letters(33), letters(33), s)} {
				checkApply(t, "with a pattern", l, changes(dropping(name)), nil, api.ErrCatalog)
			}
		}
	}
}

// TestPutOfWrong: P11.2 for wrong entries that would be inserted or would replace one, in catalogs with room and without.
func TestPutOfWrong(t *testing.T) {
	for _, l := range [][]api.Entry{nil, three(), some(199), some(200)} {
		for _, s := range wrongPatterns() {
			checkApply(t, "a pattern", l, changes(put("de", "m", s)), nil, api.ErrCatalog)
			checkApply(t, "a pattern", l, changes(put("", key(0), s)), nil, api.ErrCatalog)
			checkApply(t, "a pattern", l, changes(put("zz", "zz", s)), nil, api.ErrCatalog)
		}
		for _, s := range wrongKeys() {
			checkApply(t, "a key", l, changes(put("de", s, "x")), nil, api.ErrCatalog)
		}
		for _, s := range wrongLocales() {
			checkApply(t, "a locale", l, changes(put(s, "m", "x")), nil, api.ErrCatalog)
		}
		checkApply(t, "nothing", l, changes(api.Change{}), nil, api.ErrCatalog)
	}
}

// TestNumberOfChanges: P11.2 for 0, 1, 20 and 21 changes, right and wrong.
func TestNumberOfChanges(t *testing.T) {
	for _, n := range []int{1, 2, 19, 20} {
		checkApply(t, "one over and over", nil, slices.Repeat(changes(put("", "a", "x")), n), list(entry("", "a", "x")), api.OK)
		var c []api.Change
		for _, x := range some(n) {
			c = append(c, put(x.Locale, x.Key, x.Pattern))
		}
		checkApply(t, "so many", nil, c, some(n), api.OK)
		slices.Reverse(c)
		checkApply(t, "so many, the last one first", nil, c, some(n), api.OK)
		wrong := append(slices.Clone(c[:n-1]), put("", "", ""))
		checkApply(t, "the last one wrong", nil, wrong, nil, api.ErrCatalog)
		wrong = append(changes(put("", "", "")), c[:n-1]...)
		checkApply(t, "the first one wrong", nil, wrong, nil, api.ErrCatalog)
	}
	for _, n := range []int{21, 22, 40, 256, 1000} {
		good := slices.Repeat(changes(put("", "a", "x")), n)
		for _, l := range [][]api.Entry{nil, three(), some(200)} {
			checkApply(t, "too many", l, good, nil, api.ErrLong)
			for _, wrong := range changes(put("", "", ""), put("-", "a", ""), put("", "a", "{"), drop("", "no"), dropping(entry("", "m", "M")), api.Change{}) {
				checkApply(t, "too many, the first one wrong", l, append(changes(wrong), good[1:]...), nil, api.ErrLong)
				checkApply(t, "too many, the last one wrong", l, append(slices.Clone(good[1:]), wrong), nil, api.ErrLong)
			}
			checkApply(t, "too many, all of them nothing", l, make([]api.Change, n), nil, api.ErrLong)
		}
	}
}

// TestOneAfterAnother: P11.2 for changes that come upon what those ahead of them did.
func TestOneAfterAnother(t *testing.T) {
	x, y := entry("de", "n", "X"), entry("de", "n", "Y")
	setX, setY, none := put("de", "n", "X"), put("de", "n", "Y"), drop("de", "n")
	for _, v := range []struct {
		name string
		c    []api.Change
		more []api.Entry // beside those of three
		e    api.Errno
	}{
		{"put and dropped", changes(setX, none), nil, api.OK},
		{"put, dropped and dropped", changes(setX, none, none), nil, api.ErrKey},
		{"dropped and put", changes(none, setX), nil, api.ErrKey},
		{"put twice", changes(setX, setY), list(y), api.OK},
		{"put twice, the other way", changes(setY, setX), list(x), api.OK},
		{"put three times", changes(setX, setY, setX), list(x), api.OK},
		{"put, dropped and put", changes(setX, none, setY), list(y), api.OK},
		{"put, dropped, put and dropped", changes(setX, none, setY, none), nil, api.OK},
		{"put twice and dropped", changes(setX, setY, none), nil, api.OK},
		{"put twice and dropped twice", changes(setX, setY, none, none), nil, api.ErrKey},
		{"put and dropped elsewhere", changes(setX, drop("de-CH", "n")), nil, api.ErrKey},
		{"put and dropped in another case", changes(setX, drop("DE", "n")), nil, api.ErrKey},
		{"several", changes(put("zz", "a", "1"), put("", "a", "2"), setX, put("zz", "a", "3"), put("", "b", "4"), drop("", "a")), list(x, entry("", "b", "4"), entry("zz", "a", "3")), api.OK},
	} {
		want := sorted(append(three(), v.more...))
		if v.e != api.OK {
			want = nil
		}
		checkApply(t, v.name, three(), v.c, want, v.e)
		checkApplyDefined(t, v.name, nil, v.c)
	}
	for i, x := range three() {
		gone := drop(x.Locale, x.Key)
		checkApply(t, "dropped and put", three(), changes(gone, put(x.Locale, x.Key, "new")), at(three(), i, entry(x.Locale, x.Key, "new")), api.OK)
		checkApply(t, "dropped and put the same", three(), changes(gone, put(x.Locale, x.Key, x.Pattern)), three(), api.OK)
		checkApply(t, "replaced and dropped", three(), changes(put(x.Locale, x.Key, "new"), gone), slices.Delete(three(), i, i+1), api.OK)
		checkApply(t, "dropped, put and dropped", three(), changes(gone, put(x.Locale, x.Key, "new"), gone), slices.Delete(three(), i, i+1), api.OK)
	}
}

// TestFirstError: P11.2: the first change that is wrong tells the error, and of its errors ErrCatalog comes first.
func TestFirstError(t *testing.T) {
	missing, wrong, with := drop("de", "no"), put("de", "m", "{"), dropping(entry("de", "m", "x"))
	fine, full := put("de", "m", "new"), put("zz", "zz", "new")
	for _, v := range []struct {
		name string
		c    []api.Change
		e    api.Errno
	}{
		{"missing, wrong", changes(missing, wrong), api.ErrKey},
		{"wrong, missing", changes(wrong, missing), api.ErrCatalog},
		{"with a pattern, missing", changes(with, missing), api.ErrCatalog},
		{"missing, with a pattern", changes(missing, with), api.ErrKey},
		{"full, wrong", changes(full, wrong), api.ErrLong},
		{"wrong, full", changes(wrong, full), api.ErrCatalog},
		{"full, missing", changes(full, missing), api.ErrLong},
		{"missing, full", changes(missing, full), api.ErrKey},
		{"fine, missing, wrong", changes(fine, missing, wrong), api.ErrKey},
		{"fine, wrong, missing", changes(fine, wrong, missing), api.ErrCatalog},
		{"fine, full, missing, wrong", changes(drop("de", "m"), fine, full, missing, wrong), api.ErrLong},
		{"full and wrong", changes(put("zz", "zz", "{")), api.ErrCatalog},
		{"missing, with a pattern, at once", changes(dropping(entry("de", "no", "x"))), api.ErrCatalog},
		{"wrong, at the end", append(slices.Repeat(changes(fine), 19), wrong), api.ErrCatalog},
		{"missing, at the end", append(slices.Repeat(changes(fine), 19), missing), api.ErrKey},
		{"full, at the end", append(slices.Repeat(changes(fine), 19), full), api.ErrLong},
	} {
		checkApply(t, v.name, crowded(200), v.c, nil, v.e)
	}
}

// crowded is a catalog of so many entries, of which one is (de, m).
func crowded(n int) []api.Entry { return sorted(append(some(n-1), entry("de", "m", "m"))) }

// TestFull: P11.2 for the 201st entry: ahead of a drop, behind one, and in place of none.
func TestFull(t *testing.T) {
	another := []api.Entry{entry("", "a", "1"), entry("de", "a", "2"), entry("zz", "zz", "3")}
	for _, x := range another {
		more := put(x.Locale, x.Key, x.Pattern)
		without := sorted(slices.DeleteFunc(append(crowded(200), x), func(x api.Entry) bool { return x.Key == "m" }))
		checkApply(t, "the 200th", crowded(199), changes(more), sorted(append(crowded(199), x)), api.OK)
		checkApply(t, "the 201st", crowded(200), changes(more), nil, api.ErrLong)
		checkApply(t, "the 201st, ahead of a drop", crowded(200), changes(more, drop("de", "m")), nil, api.ErrLong)
		checkApply(t, "the 201st, ahead of its own drop", crowded(200), changes(more, drop(x.Locale, x.Key)), nil, api.ErrLong)
		checkApply(t, "behind a drop", crowded(200), changes(drop("de", "m"), more), without, api.OK)
		checkApply(t, "behind a drop, twice", crowded(200), changes(drop("de", "m"), more, more), without, api.OK)
		checkApply(t, "behind a drop, and one more", crowded(200), changes(drop("de", "m"), more, put("de", "m", "m")), nil, api.ErrLong)
		checkApply(t, "dropped and put over and over", crowded(200), slices.Repeat(changes(drop("de", "m"), put("de", "m", "m")), 10), crowded(200), api.OK)
		checkApply(t, "put and dropped over and over", crowded(199), slices.Repeat(changes(more, drop(x.Locale, x.Key)), 10), crowded(199), api.OK)
	}
	checkApply(t, "two at 199", crowded(199), changes(put("", "a", "1"), put("de", "a", "2")), nil, api.ErrLong)
	checkApply(t, "replaced", crowded(200), changes(put("de", "m", "m"), put("de", "m", "m")), crowded(200), api.OK)
	for _, n := range []int{179, 180, 181, 182} {
		var c []api.Change
		for i := range 20 {
			c = append(c, put("de", "new"+key(i), "x"))
		}
		want, e := slowApply(crowded(n), c)
		if e == api.OK != (n <= 180) {
			t.Fatal("the second reckoning tells otherwise")
		}
		checkApply(t, "20 more", crowded(n), c, want, e)
	}
}

// TestLongCatalogs: P11.2, P11.4: that an encoding would be too long is no error of Apply, Find and Say.
func TestLongCatalogs(t *testing.T) {
	l := some(200)
	for i := range l {
		l[i].Pattern = letters(2000)
	}
	checkBytes(t, "long patterns", l, "", api.ErrLong)
	checkRight(t, "long patterns", l, api.OK)
	checkApply(t, "long patterns", l, changes(put("", key(0), "x")), at(l, 0, entry("", key(0), "x")), api.OK)
	checkFind(t, "long patterns", l, "de-CH", key(199), l[199], api.OK)
	checkSay(t, "long patterns", l, "de-CH", key(199), nil, letters(2000), api.OK)
}

// TestAnswersStay: R4: a catalog that Apply has answered, and the one it was made of, are not changed by later calls.
func TestAnswersStay(t *testing.T) {
	c := changes(put("", "a", "new"), put("de", "m", "new"), drop("", "a"), put("zz", "zz", "new"), drop("de-CH", "m"))
	for n := range len(c) + 1 {
		first := three()
		second, e := catalog.Apply(first, c[:n])
		if e != api.OK {
			t.Fatal(e)
		}
		kept := slices.Clone(second)
		for range 2 {
			for m := range len(c) + 1 {
				catalog.Apply(first, c[:m])
				catalog.Apply(second, c[:m])
				catalog.Apply(second, changes(put("", "-", "other"), put("de", "m", "other"), put("~", "", "")))
				catalog.Apply(second, changes(drop("", "m"), put("de", "m", "other")))
				catalog.Bytes(second)
				catalog.Say(second, "de", "m", nil)
				if !slices.Equal(first, three()) || !slices.Equal(second, kept) {
					t.Fatalf("behind %s: %s and %s", brief(c[:m]), brief(first), brief(second))
				}
			}
		}
	}
}
