package catalog_test

import (
	"slices"
	"strconv"
	"strings"
	"testing"

	"hornbook/api"
	"hornbook/catalog"
)

// both is the example's catalog.
func both() []api.Entry { return list(entry("", "hi", "Hi"), entry("de", "hi", "Hallo {w}")) }

// TestExamples: the chapter's table.
func TestExamples(t *testing.T) {
	x := with(word("w", "x"))
	checkSay(t, "at the language", both(), "de-CH", "hi", x, "Hallo x", api.OK)
	checkSay(t, "at the empty Locale", both(), "fr", "hi", nil, "Hi", api.OK)
	checkFind(t, "no such key", both(), "de", "no", api.Entry{}, api.ErrKey)
	checkApply(t, "no such key", both(), changes(drop("de", "no")), nil, api.ErrKey)
	checkRight(t, "no pattern", list(entry("de", "hi", "{")), api.ErrCatalog)
	checkBytes(t, "an entry", list(entry("", "a", "b")), "ll0:1:a1:bee", api.OK)
}

// everywhere answers catalogs in which an entry stands alone, first, last and among others, in order.
func everywhere(x api.Entry) map[string][]api.Entry {
	low, high := entry("", "-", "low"), entry("zz", "z", "high")
	low2, high2 := entry("", ".", "low"), entry("zz", "zz", "high")
	return map[string][]api.Entry{
		"alone":          list(x),
		"first of three": sorted(list(x, high, high2)),
		"last of three":  sorted(list(low, low2, x)),
		"second":         sorted(list(low, x, high)),
		"third of five":  sorted(list(low, low2, x, high, high2)),
	}
}

// checkEntry: P11.1 for an entry wherever it stands, P11.2 for one that is put: it is valid, or ErrCatalog is answered.
func checkEntry(t *testing.T, name string, x api.Entry, valid bool) {
	t.Helper()
	want, after := api.ErrCatalog, []api.Entry(nil)
	if valid {
		want, after = api.OK, list(x)
	}
	for where, l := range everywhere(x) {
		checkRight(t, name+", "+where, l, want)
	}
	checkApply(t, name, nil, changes(put(x.Locale, x.Key, x.Pattern)), after, want)
	if slowEntry(x) != valid {
		t.Errorf("%s: the second reckoning tells otherwise", name)
	}
}

// rightKeys and wrongKeys are the edges of what a Key may be.
func rightKeys() []string {
	return []string{"a", "z", "A", "Z", "0", "9", ".", "_", "-", "-a", "a-", "..", "--", "__", "a.b_c-D9", "other", letters(31), letters(32), strings.Repeat("-", 32)}
}

func wrongKeys() []string {
	return []string{
		"", " ", "a ", " a", "a b", "a:", "a/b", "a,b", "a'", "{", "}", "#", "\x00", "a\x00", "\n", "a\n", "a\r", "\t", "\x7f", "\x80", "\xff", "a\xffb",
		"é", "aé", "ä", "\u0131", "\u212a", "\u2010", "a\u0300", "a@b", "a[b", "a`b", "a+b", "a*", "a\\b", "a^", "a~", "\ufffd",
		letters(33), letters(34), letters(64), letters(1 << 16), strings.Repeat("é", 16), letters(31) + " ", letters(31) + "é",
	}
}

// rightLocales and wrongLocales are the edges of what a Locale may be.
func rightLocales() []string {
	return []string{"", "a", "Z", "0", "9", "de", "DE", "de-CH", "de-CH-x", "1-2-3", "a-b-c-d-e-f-g-h", letters(31), letters(32), "x-" + letters(30), strings.Repeat("x-", 15) + "xx"}
}

func wrongLocales() []string {
	return []string{
		"-", "--", "-de", "de-", "de--CH", "de-CH-", "-de-CH", "de_CH", "de.CH", "de CH", " ", " de", "de ", "de\n", "\n", "\x00", "de\x00", "de:hi", "d\xff", "\xff", "é", "dé", "d\u0430", "\u2010", "de\u2010CH", "\u0131", "*", "de/CH", "@", "[", "`", "{", "\ufffd",
		letters(33), letters(34), letters(1 << 16), letters(31) + "-", "-" + letters(31), letters(16) + "-" + letters(16), strings.Repeat("x-", 16) + "x", strings.Repeat("é", 16),
	}
}

// nested is the text of a pattern of so many branches inside one another.
func nested(n int) string {
	return strings.Repeat("{a, select, other {", n) + "x" + strings.Repeat("}}", n)
}

// rightPatterns and wrongPatterns are the edges of what a Pattern may be.
func rightPatterns() []string {
	return []string{
		"", " ", "x", "Hi", "{a}", "{a}{b}", "''", "'{'", "'}'", "'#'", "\x00\xff\xfe", "é", "a\nb", "{n, plural, other {}}", "{n, plural, =0 {none} one {#} other {# of {m}}}", "{n, select, a {} other {}}",
		letters(1999), letters(2000), strings.Repeat("''", 1000), strings.Repeat("\xff", 2000), nested(1), nested(31), nested(32),
		"{n, plural, other {" + strings.Repeat("#", 999) + "}}", // 1000 parts
	}
}

func wrongPatterns() []string {
	return []string{
		"{", "}", "#", "'", "a'b", "'x'", "{a", "{}", "{ a}", "{a }", "{A}", "{1}", "{a}}", "{{a}", "x}", "{n, plural}", "{n, plural,}", "{n,plural, other {}}", "{n, plural, other {}", "{n, plural, one {}}", "{n, select, =1 {} other {}}", "{n, select, other {#}}", "{n, select, other {} other {}}", "{n, plural, =01 {} other {}}", "{n, choice, other {}}",
		letters(2001), letters(2002), letters(1 << 16), strings.Repeat("''", 1000) + "x", "{" + letters(33) + "}", nested(33), nested(40),
		"{n, plural, other {" + strings.Repeat("#", 1000) + "}}", // 1001 parts
		letters(1999) + "{", letters(2000) + "{",
	}
}

// TestKeys: P11.1, P11.2 for what a Key may be.
func TestKeys(t *testing.T) {
	for _, s := range rightKeys() {
		checkEntry(t, "key "+brief(s), entry("de", s, "x"), true)
	}
	for _, s := range wrongKeys() {
		checkEntry(t, "key "+brief(s), entry("de", s, "x"), false)
		checkEntry(t, "key "+brief(s), entry("", s, ""), false)
	}
}

// TestEachKeyByte: P11.1, P11.2 for each byte alone, first, in the middle, last, and last of 32, and for characters that end with the bits of a byte that may stand.
func TestEachKeyByte(t *testing.T) {
	const may = "abcdefghijklmnopqrstuvwxyzABCDEFGHIJKLMNOPQRSTUVWXYZ0123456789._-"
	for c := range 256 {
		s := string([]byte{byte(c)})
		for _, key := range []string{s, s + "a", "a" + s + "b", "a" + s, letters(31) + s} {
			checkEntry(t, "key "+brief(key), entry("de", key, "x"), strings.Contains(may, s))
		}
	}
	for c := rune(0x80); c < 0x400; c++ {
		checkEntry(t, "key "+strconv.Itoa(int(c)), entry("", string(c), "x"), false)
	}
}

// TestLocales: P11.1, P11.2 for what a Locale may be.
func TestLocales(t *testing.T) {
	for _, s := range rightLocales() {
		checkEntry(t, "locale "+brief(s), entry(s, "k", "x"), true)
	}
	for _, s := range wrongLocales() {
		checkEntry(t, "locale "+brief(s), entry(s, "k", "x"), false)
	}
	for c := range 256 {
		s := string([]byte{byte(c)})
		letter := c < 128 && aLocale.MatchString(s)
		for _, locale := range []string{s, s + "a", "a" + s, "a-" + s, s + "-a"} {
			checkEntry(t, "locale "+brief(locale), entry(locale, "k", "x"), letter)
		}
		checkEntry(t, "locale a"+brief(s)+"b", entry("a"+s+"b", "k", "x"), letter || s == "-")
	}
}

// TestPatterns: P11.1, P11.2 for what a Pattern may be.
func TestPatterns(t *testing.T) {
	for _, s := range rightPatterns() {
		checkEntry(t, "pattern "+brief(s), entry("", "k", s), true)
		checkEntry(t, "pattern "+brief(s), entry("de-CH", "k", s), true)
	}
	for _, s := range wrongPatterns() {
		checkEntry(t, "pattern "+brief(s), entry("", "k", s), false)
		checkEntry(t, "pattern "+brief(s), entry("de-CH", "k", s), false)
	}
}

// TestSeveralFaults: P11.1 where more than one thing is wrong about an entry.
func TestSeveralFaults(t *testing.T) {
	for _, locale := range []string{"de", "-", letters(33)} {
		for _, key := range []string{"k", "", letters(33), " "} {
			for _, s := range []string{"x", "{", letters(2001)} {
				x := entry(locale, key, s)
				checkEntry(t, brief(list(x)), x, x == entry("de", "k", "x"))
			}
		}
	}
	checkEntry(t, "nothing", api.Entry{}, false)
}

// rising are entries in order, where what decides is named.
func rising() []api.Entry {
	return list(
		entry("", "-", "-"), entry("", ".", "."), entry("", "0", "0"), entry("", "9", "9"), entry("", "A", "A"), entry("", "Z", "Z"), entry("", "_", "_"), entry("", "a", "a"),
		entry("", "a-", "a key that begins another"), entry("", "a.", "."), entry("", "aa", "aa"), entry("", "b", "b"), entry("", "z", "z"),
		entry("0", "a", "a Locale comes first"), entry("00", "a", ""), entry("1", "a", ""), entry("10", "z", "not by number"), entry("9", "a", ""),
		entry("A", "z", ""), entry("B", "a", ""), entry("DE", "z", "upper case ahead of lower case"), entry("DE-CH", "z", ""), entry("De", "z", ""), entry("Z", "z", ""),
		entry("a", "A", ""), entry("a", "a", ""), entry("a", "bc", "not by both at once"), entry("aa", "a", "not by length"), entry("ab", "b", ""), entry("ab", "c", ""), entry("b", "a", ""),
		entry("de", "hi", ""), entry("de", "z", ""), entry("de-CH", "a", "a Locale that begins another"), entry("de-CH", "b", "not by parts"), entry("de-CH-x", "a", ""), entry("de-DE", "a", ""), entry("de-ch", "a", ""), entry("de0", "a", "a dash ahead of a digit"), entry("deA", "a", ""), entry("dea", "a", ""), entry("zz", "a", ""),
	)
}

// TestOrder: P11.1 for any two entries, in each order, whatever their patterns are.
func TestOrder(t *testing.T) {
	all := rising()
	checkRight(t, "all of them", all, api.OK)
	for i, a := range all {
		for j, b := range all {
			want := api.ErrCatalog
			if i < j {
				want = api.OK
			}
			for _, patterns := range []string{"aa", "ab", "ba"} {
				a.Pattern, b.Pattern = patterns[:1], patterns[1:]
				checkRight(t, "two", list(a, b), want)
			}
		}
	}
	for i := range len(all) - 1 {
		swapped := at(at(all, i, all[i+1]), i+1, all[i])
		checkRight(t, "two of all in the wrong order", swapped, api.ErrCatalog)
		twice := slices.Insert(slices.Clone(all), i, all[i])
		checkRight(t, "one of all twice", twice, api.ErrCatalog)
		twice[i].Pattern += "x"
		checkRight(t, "one of all twice, with unlike patterns", twice, api.ErrCatalog)
		twice[i].Pattern, twice[i+1].Pattern = "", twice[i].Pattern
		checkRight(t, "one of all twice, with unlike patterns that rise", twice, api.ErrCatalog)
	}
	checkRight(t, "the first one last", append(slices.Clone(all[1:]), all[0]), api.ErrCatalog)
	checkRight(t, "the last one first", append(list(all[len(all)-1]), all[:len(all)-1]...), api.ErrCatalog)
	checkRight(t, "one twice, apart", append(slices.Clone(all), all[0]), api.ErrCatalog)
	slices.Reverse(all)
	checkRight(t, "falling", all, api.ErrCatalog)
}

// TestNumberOfEntries: P11.1 for 0, 1, 199, 200 and 201 entries and more, right or wrong ones.
func TestNumberOfEntries(t *testing.T) {
	checkRight(t, "nil", nil, api.OK)
	checkRight(t, "empty", list(), api.OK)
	for _, n := range []int{1, 2, 3, 100, 199, 200} {
		l := some(n)
		checkRight(t, "so many", l, api.OK)
		for _, i := range []int{0, n / 2, n - 1} {
			checkRight(t, "a wrong one", at(l, i, entry(l[i].Locale, l[i].Key, "{")), api.ErrCatalog)
			checkRight(t, "a wrong Key", at(l, i, entry(l[i].Locale, l[i].Key+" ", "")), api.ErrCatalog)
		}
		if n > 1 {
			checkRight(t, "the last one twice", at(l, n-1, l[n-2]), api.ErrCatalog)
			checkRight(t, "the first one twice", at(l, 0, l[1]), api.ErrCatalog)
		}
	}
	for _, n := range []int{201, 202, 256, 400, 1000, 1 << 16} {
		l := some(n)
		checkRight(t, "so many", l, api.ErrLong)
		checkRight(t, "a wrong one", at(l, 0, api.Entry{}), api.ErrLong)
		checkRight(t, "a wrong one at the end", at(l, n-1, entry("", "k", "{")), api.ErrLong)
		checkRight(t, "one twice", at(l, 1, l[0]), api.ErrLong)
		checkRight(t, "all of them nothing", make([]api.Entry, n), api.ErrLong)
		slices.Reverse(l)
		checkRight(t, "falling", l, api.ErrLong)
	}
	checkRight(t, "200 times nothing", make([]api.Entry, 200), api.ErrCatalog)
	checkRight(t, "200 times one", slices.Repeat(both()[:1], 200), api.ErrCatalog)
}

// notCatalogs are lists that are none, with the error of Right.
func notCatalogs() map[string]api.Errno {
	return map[string]api.Errno{"201 entries": api.ErrLong, "201 entries, falling": api.ErrLong, "a wrong pattern": api.ErrCatalog, "a wrong key": api.ErrCatalog, "a wrong locale": api.ErrCatalog, "the wrong order": api.ErrCatalog, "one twice": api.ErrCatalog, "200 entries and a wrong one": api.ErrCatalog}
}

func notCatalog(name string) []api.Entry {
	falling := some(201)
	slices.Reverse(falling)
	return map[string][]api.Entry{
		"201 entries":                 some(201),
		"201 entries, falling":        falling,
		"a wrong pattern":             append(both(), entry("de", "x", "{")),
		"a wrong key":                 append(both(), entry("de", "x ", "")),
		"a wrong locale":              append(both(), entry("de-", "x", "")),
		"the wrong order":             list(both()[1], both()[0]),
		"one twice":                   append(both(), both()[1]),
		"200 entries and a wrong one": at(some(200), 199, entry("de-CH", key(199), "}")),
	}[name]
}

// TestNoCatalog: P11.1 to P11.4: the error of Right comes ahead of any other.
func TestNoCatalog(t *testing.T) {
	for name, e := range notCatalogs() {
		l := notCatalog(name)
		checkRight(t, name, l, e)
		checkBytes(t, name, l, "", e)
		for _, c := range [][]api.Change{nil, changes(drop("de", "hi")), changes(drop("de", "no")), changes(put("-", "", "{")), changes(put("", "", "")), changes(drop("de", "x")), slices.Repeat(changes(put("de", "hi", "x")), 20), slices.Repeat(changes(put("de", "hi", "x")), 21)} {
			checkApply(t, name, l, c, nil, e)
		}
		for _, locale := range []string{"", "de", "fr", "-", letters(33)} {
			for _, key := range []string{"hi", "no", "", key(0)} {
				checkFind(t, name, l, locale, key, api.Entry{}, e)
				for _, args := range [][]api.Arg{nil, with(word("w", "x")), with(word("", "")), with(number("w", 1), number("w", 1))} {
					checkSay(t, name, l, locale, key, args, "", e)
				}
			}
		}
	}
}

// TestGreatInputs: P1 for inputs far beyond what may be.
func TestGreatInputs(t *testing.T) {
	huge := strings.Repeat("{a, select, other {", 1<<16)
	for _, x := range []api.Entry{entry(huge, "k", "x"), entry("de", huge, "x"), entry("de", "k", huge), entry(huge, huge, huge), entry(letters(1<<24), letters(1<<24), letters(1<<24))} {
		checkRight(t, "a great entry", list(x), api.ErrCatalog)
		checkRight(t, "a great entry behind others", append(both(), x), api.ErrCatalog)
		checkBytes(t, "a great entry", list(x), "", api.ErrCatalog)
		checkApply(t, "a great entry is put", both(), changes(put(x.Locale, x.Key, x.Pattern)), nil, api.ErrCatalog)
		checkApply(t, "a great entry is dropped", both(), changes(dropping(x)), nil, api.ErrCatalog)
		checkFind(t, "a great locale", both(), x.Locale+"-", "hi", api.Entry{}, api.ErrKey)
		checkFind(t, "a great key", both(), "de", x.Key+x.Key, api.Entry{}, api.ErrKey)
	}
	checkApply(t, "a drop of great names", both(), changes(drop(huge, huge)), nil, api.ErrKey)
	checkSay(t, "a great argument", both(), "de", "hi", with(word("w", huge)), "", api.ErrArg)
	checkApply(t, "many changes", both(), make([]api.Change, 1<<20), nil, api.ErrLong)
	checkRight(t, "many entries", make([]api.Entry, 1<<20), api.ErrLong)
	checkParse(t, "a great text", letters(1<<24), nil, api.ErrLong)
}

// TestSameAnswers: R1: calls with other arguments in between change nothing.
func TestSameAnswers(t *testing.T) {
	for range 3 {
		checkRight(t, "a catalog", both(), api.OK)
		checkSay(t, "a catalog", both(), "de", "hi", with(word("w", "x")), "Hallo x", api.OK)
		catalog.Apply(both(), changes(drop("", "hi"), put("de", "hi", "other")))
		checkRight(t, "no catalog", notCatalog("one twice"), api.ErrCatalog)
		checkFind(t, "another one", list(entry("de", "hi", "other")), "de", "hi", entry("de", "hi", "other"), api.OK)
	}
}
