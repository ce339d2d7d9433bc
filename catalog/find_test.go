package catalog_test

import (
	"strconv"
	"strings"
	"testing"

	"hornbook/api"
)

// steps is a catalog in which each step of a chain has a key of its own, and one that the elder ones have too.
func steps() []api.Entry {
	return sorted(list(
		entry("", "all", "0"), entry("", "own0", "a"), entry("", "up1", "0"), entry("", "up2", "0"), entry("", "up3", "0"),
		entry("de", "all", "1"), entry("de", "own1", "b"), entry("de", "up1", "1"), entry("de", "up2", "1"),
		entry("de-CH", "all", "2"), entry("de-CH", "own2", "c"), entry("de-CH", "up1", "2"),
		entry("de-CH-x", "all", "3"), entry("de-CH-x", "own3", "d"),
		entry("en", "all", "e"), entry("en", "own4", "e"), entry("de-AT", "all", "f"), entry("de-AT", "own5", "f"), entry("DE", "all", "g"), entry("d", "all", "h"),
	))
}

// TestFindAlongChain: P11.4 for a locale of several parts, found at each step of its chain and at the empty Locale.
func TestFindAlongChain(t *testing.T) {
	for _, x := range []struct{ locale, key, at string }{
		{"de-CH-x", "all", "de-CH-x"}, {"de-CH-x", "up1", "de-CH"}, {"de-CH-x", "up2", "de"}, {"de-CH-x", "up3", ""}, {"de-CH-x", "own0", ""}, {"de-CH-x", "own1", "de"}, {"de-CH-x", "own2", "de-CH"}, {"de-CH-x", "own3", "de-CH-x"},
		{"de-CH-x-y", "all", "de-CH-x"}, {"de-CH-x-y-z", "up1", "de-CH"}, {"de-CH-x-y-z", "own0", ""}, {"de-CH-y", "all", "de-CH"}, {"de-CH-xx", "all", "de-CH"},
		{"de-CH", "all", "de-CH"}, {"de-CH", "up1", "de-CH"}, {"de-CH", "up2", "de"}, {"de-CH", "up3", ""}, {"de-CH", "own1", "de"},
		{"de", "all", "de"}, {"de", "up1", "de"}, {"de", "up3", ""}, {"de", "own0", ""}, {"de", "own1", "de"},
		{"", "all", ""}, {"", "up1", ""}, {"", "own0", ""},
		{"de-AT", "all", "de-AT"}, {"de-AT", "up1", "de"}, {"de-AT", "own0", ""}, {"de-DE", "all", "de"}, {"de-ch", "all", "de"}, {"de-C", "all", "de"}, {"de-CHx", "all", "de"},
		{"DE", "all", "DE"}, {"DE-CH", "all", "DE"}, {"DE", "up1", ""}, {"d", "all", "d"}, {"d", "up1", ""}, {"d-e", "all", "d"},
		{"en", "all", "en"}, {"en-US", "all", "en"}, {"en-de", "all", "en"}, {"en-de", "up1", ""}, {"fr", "all", ""}, {"fr-de-CH", "all", ""}, {"x-de", "all", ""}, {"de0", "all", ""}, {"dee", "all", ""}, {"De", "all", ""}, {letters(32), "all", ""}, {"de-" + letters(29), "all", "de"},
	} {
		want, found := api.Entry{}, false
		for _, y := range steps() {
			if y.Locale == x.at && y.Key == x.key {
				want, found = y, true
			}
		}
		if !found {
			t.Fatal("no such entry")
		}
		checkFind(t, "found", steps(), x.locale, x.key, want, api.OK)
		checkSay(t, "found", steps(), x.locale, x.key, nil, want.Pattern, api.OK)
		checkFindDefined(t, "found", steps(), x.locale, x.key, nil)
	}
}

// TestFindNothing: P11.4 for keys that no step of a chain has, and for those that no entry can have.
func TestFindNothing(t *testing.T) {
	for _, x := range [][2]string{
		{"de-CH-x", "own4"}, {"de-CH-x", "own5"}, {"de-CH", "own3"}, {"de", "own2"}, {"de", "own3"}, {"", "own1"}, {"", "own4"}, {"en", "own1"}, {"fr", "own1"}, {"DE", "own1"}, {"d", "own1"}, {"de-AT", "own2"}, {"de-C", "own2"}, {"de-ch", "own2"}, {"x-de", "own1"}, {"de0", "own1"},
		{"de", "ALL"}, {"de", "All"}, {"de", "al"}, {"de", "alll"}, {"de", "all-"}, {"de-CH", "de-CH"}, {"", "no"}, {"de", "no"}, {"de-CH-x", "no"}, {"zz", "zz"},
	} {
		checkFind(t, "nothing", steps(), x[0], x[1], api.Entry{}, api.ErrKey)
		checkSay(t, "nothing", steps(), x[0], x[1], nil, "", api.ErrKey)
	}
	for _, locale := range []string{"", "de", "de-CH-x", "fr"} {
		for _, key := range wrongKeys() {
			checkFind(t, "no key", steps(), locale, key, api.Entry{}, api.ErrKey)
			checkSay(t, "no key", steps(), locale, key, nil, "", api.ErrKey)
		}
		for _, key := range []string{"", "a", "all"} {
			checkFind(t, "in nothing", nil, locale, key, api.Entry{}, api.ErrKey)
			checkFind(t, "in nothing", list(), locale, key, api.Entry{}, api.ErrKey)
			checkSay(t, "in nothing", nil, locale, key, nil, "", api.ErrKey)
		}
	}
}

// TestFindNoLocale: P11.4 for what is neither empty nor a locale, even if the empty Locale has the key.
func TestFindNoLocale(t *testing.T) {
	for _, locale := range append(wrongLocales(), "de-CH-", "de-CH--x", "-de-CH", "de-CH x", "de-CH-x\x00", "de_CH", "de-"+letters(30)) {
		for _, key := range []string{"all", "own0", "own1", "no", "", "a b"} {
			checkFind(t, "no locale", steps(), locale, key, api.Entry{}, api.ErrKey)
			checkSay(t, "no locale", steps(), locale, key, nil, "", api.ErrKey)
			checkSay(t, "no locale and no arguments", steps(), locale, key, with(word("", "")), "", api.ErrKey)
		}
	}
}

// TestFindAmongMany: P11.4 for each entry of the greatest catalogs.
func TestFindAmongMany(t *testing.T) {
	for _, n := range []int{1, 2, 3, 4, 5, 199, 200} {
		for i, x := range some(n) {
			checkFind(t, "of some", some(n), x.Locale, x.Key, x, api.OK)
			checkFind(t, "of some, farther", some(n), "de-CH-x", x.Key, x, api.OK)
			checkSay(t, "of some", some(n), x.Locale, x.Key, nil, "p"+strconv.Itoa(i), api.OK)
		}
	}
	for _, x := range rising() {
		checkFind(t, "of those that rise", rising(), x.Locale, x.Key, x, api.OK)
	}
}

// TestSayInLanguage: P11.4: a pattern is said in the language of the Locale at which it is found, whatever locale was asked for.
func TestSayInLanguage(t *testing.T) {
	const forms = "{n, plural, zero {zero} one {one} two {two} few {few} many {many} other {other}} {n}"
	l := sorted(list(
		entry("", "base", forms), entry("en", "base", forms), entry("ru", "base", forms), entry("ar-EG", "base", forms), entry("EN", "base", forms), entry("xx", "base", forms), entry("fr-CA", "far", forms), entry("x-ru", "base", forms),
		entry("", "none", forms), entry("ru", "mine", forms), entry("cs-CZ-x-y", "mine", forms), entry("cs", "mine", "not this one"),
	))
	for _, x := range []struct {
		locale, key string
		n           int64
		want        string
	}{
		{"en", "base", 1, "one 1"}, {"en", "base", 2, "other 2"}, {"en-US", "base", 1, "one 1"}, {"en-ru", "base", 2, "other 2"}, {"en-US-x-y", "base", 1, "one 1"},
		{"ru", "base", 1, "one 1"}, {"ru", "base", 21, "one 21"}, {"ru", "base", 2, "few 2"}, {"ru-RU", "base", 5, "many 5"}, {"ru-en", "base", 22, "few 22"}, {"ru", "base", -2, "few -2"},
		{"ar-EG", "base", 0, "zero 0"}, {"ar-EG", "base", 2, "two 2"}, {"ar-EG-x", "base", 3, "few 3"}, {"ar-EG", "base", 11, "many 11"},
		// Found at the empty Locale: the language that was asked for has no part in it.
		{"ar", "base", 0, "other 0"}, {"ar", "base", 2, "other 2"}, {"ar-XX", "base", 1, "other 1"}, {"", "base", 1, "other 1"}, {"fr", "base", 1, "other 1"}, {"de", "base", 1, "other 1"}, {"en", "none", 1, "other 1"}, {"ru", "none", 2, "other 2"}, {"en-US", "none", 1, "other 1"}, {"", "none", 0, "other 0"},
		// Languages that the table does not have, and one that is not the first part.
		{"EN", "base", 1, "other 1"}, {"EN-US", "base", 1, "other 1"}, {"xx", "base", 1, "other 1"}, {"x-ru", "base", 2, "other 2"},
		{"fr-CA", "far", 0, "one 0"}, {"fr-CA-x", "far", 1, "one 1"}, {"fr-CA", "far", 2, "other 2"}, {"ru-UA", "mine", 3, "few 3"}, {"cs-CZ-x-y", "mine", 3, "few 3"}, {"cs-CZ-x-y-z", "mine", 1, "one 1"}, {"cs-CZ-x", "mine", 3, "not this one"},
	} {
		args := with(number("n", x.n))
		checkSay(t, "a plural", l, x.locale, x.key, args, x.want, api.OK)
		checkFindDefined(t, "a plural", l, x.locale, x.key, args)
	}
}

// TestSayErrors: P11.4: every error of format.Format is passed on, and comes behind those of Find.
func TestSayErrors(t *testing.T) {
	l := sorted(list(
		entry("", "text", "x"), entry("", "arg", "{a}"), entry("de", "arg", "de {a}"), entry("", "two", "{a}{b}"), entry("", "plural", "{a, plural, other {#}}"), entry("de", "select", "{a, select, b {{b}} other {}}"),
		entry("", "empty", ""), entry("", "long", letters(2000)), entry("", "more", letters(1000)+"{a}"), entry("", "apart", "{a}{missing}"),
	))
	for _, x := range []struct {
		locale, key string
		args        []api.Arg
		want        string
		e           api.Errno
	}{
		{"", "text", nil, "x", api.OK},
		{"", "empty", nil, "", api.OK},
		{"", "long", nil, letters(2000), api.OK},
		{"", "arg", with(word("a", "A")), "A", api.OK},
		{"de-CH", "arg", with(word("a", "A")), "de A", api.OK},
		{"fr", "arg", with(number("a", -7)), "-7", api.OK},
		{"", "text", with(word("a", "A"), number("z", 1)), "x", api.OK},
		{"", "two", with(number("b", 2), word("a", "{b}")), "{b}2", api.OK},
		{"de", "select", with(word("a", "b"), word("b", "B")), "B", api.OK},
		{"de", "select", with(word("a", "c")), "", api.OK},

		{"", "text", with(word("", "A")), "", api.ErrArg},
		{"", "text", with(word("A", "A")), "", api.ErrArg},
		{"", "arg", with(word("a", "A"), word("a", "A")), "", api.ErrArg},
		{"", "arg", with(api.Arg{Name: "a", IsNum: true, S: "A"}), "", api.ErrArg},
		{"de", "arg", with(api.Arg{Name: "a", N: 1}), "", api.ErrArg},
		{"", "arg", with(word("a", letters(8001))), "", api.ErrArg},
		{"", "text", with(word(letters(33), "A")), "", api.ErrArg},
		{"", "text", make([]api.Arg, 33), "", api.ErrArg},

		{"", "arg", nil, "", api.ErrMissing},
		{"de-CH", "arg", with(word("b", "A")), "", api.ErrMissing},
		{"", "two", with(word("a", "A")), "", api.ErrMissing},
		{"", "plural", nil, "", api.ErrMissing},
		{"de", "select", nil, "", api.ErrMissing},
		{"de", "select", with(word("a", "b")), "", api.ErrMissing},
		{"", "apart", with(word("a", "A")), "", api.ErrMissing},

		{"", "plural", with(word("a", "1")), "", api.ErrType},
		{"fr", "plural", with(word("a", "")), "", api.ErrType},
		{"de", "select", with(number("a", 1)), "", api.ErrType},

		{"", "arg", with(word("a", letters(8000))), letters(8000), api.OK},
		{"", "more", with(word("a", letters(7000))), letters(8000), api.OK},
		{"", "more", with(word("a", letters(7001))), "", api.ErrLong},
		{"de", "arg", with(word("a", letters(7998))), "", api.ErrLong},
		{"", "two", with(word("a", letters(8000)), number("b", 1)), "", api.ErrLong},

		{"de", "no", nil, "", api.ErrKey},
		{"de", "no", with(word("", "")), "", api.ErrKey},
		{"de-", "arg", with(word("a", "A")), "", api.ErrKey},
		{"de-", "arg", make([]api.Arg, 33), "", api.ErrKey},
		{"", "select", with(number("a", 1)), "", api.ErrKey},
		{"de", "", nil, "", api.ErrKey},
	} {
		checkSay(t, "said", l, x.locale, x.key, x.args, x.want, x.e)
		checkFindDefined(t, "said", l, x.locale, x.key, x.args)
	}
}

// TestSayTakesPatternApart: P11.4, P11.5: what is said is the output of the pattern, not its text.
func TestSayTakesPatternApart(t *testing.T) {
	args := with(number("n", 1), word("who", "I"), word("a", "other"))
	for text, want := range map[string]string{
		"Hi {who}, it''s '{'": "Hi I, it's {",
		"''''":                "''",
		"'#''}'":              "#}",
		"{n, plural, =0 {none} one {#} other {# of {m}}}": "1",
		"\x00\xff{who}": "\x00\xffI",
		nested(32):      "x",
		"{n, plural, other {" + strings.Repeat("#", 999) + "}}": strings.Repeat("1", 999),
	} {
		checkSay(t, "taken apart", list(entry("en", "k", text)), "en", "k", args, want, api.OK)
	}
	for _, s := range rightPatterns() {
		checkFindDefined(t, "right", list(entry("en", "k", s)), "en-US", "k", args)
		checkFindDefined(t, "right", list(entry("", "k", s)), "en-US", "k", nil)
	}
}
