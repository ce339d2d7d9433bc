package plural_test

import (
	"math"
	"strings"
	"testing"

	"hornbook/api"
	"hornbook/plural"
)

// table is the chapter's, a line for each of its rows.
const table = `en one: i = 1
de one: i = 1
fr one: i = 0,1
ru one: i % 10 = 1 and i % 100 != 11; few: i % 10 = 2..4 and i % 100 != 12..14; many: i % 10 = 0,5..9 or i % 100 = 11..14
pl one: i = 1; few: i % 10 = 2..4 and i % 100 != 12..14; many: i % 10 = 0,1,5..9 or i % 100 = 12..14
cs one: i = 1; few: i = 2..4
ar zero: i = 0; one: i = 1; two: i = 2; few: i % 100 = 3..10; many: i % 100 = 11..99
sl one: i % 100 = 1; two: i % 100 = 2; few: i % 100 = 3,4
cy zero: i = 0; one: i = 1; two: i = 2; few: i = 3; many: i = 6`

// strangers are languages that are not in the table.
var strangers = []string{"", " ", "e", "n", "en ", " en", "enn", "en\x00", "\x00en", "EN", "En", "eN", "DE", "Ru", "en-GB", "en_GB", "de-AT", "fr-CA", "xx", "it", "es", "zh", "ja", "sk", "hr", "uk", "one", "other", "en, de", "\xff\xfe", strings.Repeat("en", 50000)}

// slowCategory reckons without rules.
func slowCategory(language string, n int64) string {
	i := uint64(n)
	if n < 0 {
		i = uint64(-(n + 1)) + 1
	}
	tens, hundreds := i%10, i%100
	teen := hundreds >= 10 && hundreds < 20
	pick := func(names ...string) string {
		for k := 0; k < len(names); k += 2 {
			if names[k] == "yes" {
				return names[k+1]
			}
		}
		return "other"
	}
	when := func(is bool) string {
		if is {
			return "yes"
		}
		return "no"
	}
	few := tens > 1 && tens < 5 && !teen
	switch language {
	case "en", "de":
		return pick(when(i == 1), "one")
	case "fr":
		return pick(when(i < 2), "one")
	case "ru":
		return pick(when(tens == 1 && !teen), "one", when(few), "few", "yes", "many")
	case "pl":
		return pick(when(i == 1), "one", when(few), "few", "yes", "many")
	case "cs":
		return pick(when(i == 1), "one", when(i > 1 && i < 5), "few")
	case "ar":
		return pick(when(i == 0), "zero", when(i == 1), "one", when(i == 2), "two", when(hundreds > 2 && hundreds < 11), "few", when(hundreds > 10), "many")
	case "sl":
		return pick(when(hundreds == 1), "one", when(hundreds == 2), "two", when(hundreds == 3 || hundreds == 4), "few")
	case "cy":
		return pick(when(i == 0), "zero", when(i == 1), "one", when(i == 2), "two", when(i == 3), "few", when(i == 6), "many")
	}
	return "other"
}

func checkCategory(t *testing.T, language string, n int64, want string) {
	t.Helper()
	if got := plural.Category(language, n); got != want {
		t.Errorf("Category of %s and %d is %q, not %q", brief(language), n, got, want)
	}
}

// TestTable: P8.4: the names and rules of each language, in order, and that they print as the chapter writes them.
func TestTable(t *testing.T) {
	for _, line := range strings.Split(table, "\n") {
		language, rest, _ := strings.Cut(line, " ")
		want := strings.Split(rest, "; ")
		got := plural.Table(language)
		if len(got) != len(want) {
			t.Errorf("Table of %s has %d categories, not %d", language, len(got), len(want))
			continue
		}
		for i, c := range got {
			name, text, _ := strings.Cut(want[i], ": ")
			rule, _ := taken(text)
			if c.Name != name || !same(c.Rule, rule) {
				t.Errorf("Table of %s has %s: %s, not %s", language, c.Name, short(c.Rule), want[i])
			}
			checkDefined(t, language+" "+name, c.Rule)
			checkPrint(t, language+" "+name, c.Rule, text, api.OK)
		}
	}
	for _, language := range strangers {
		if got := plural.Table(language); len(got) > 0 {
			t.Errorf("Table of %s has %d categories", brief(language), len(got))
		}
	}
}

// TestTableAnswersNewMemory: what a call answers is not touched by who writes into the answer of another one, nor does one list of an answer share with another.
func TestTableAnswersNewMemory(t *testing.T) {
	for _, line := range strings.Split(table, "\n") {
		language, _, _ := strings.Cut(line, " ")
		before := plural.Table(language)
		first := plural.Table(language)
		for i := range first {
			first[i].Name = "scribble"
			for j := range first[i].Rule {
				for k := range first[i].Rule[j] {
					spans := first[i].Rule[j][k].Spans
					for l := range spans[:cap(spans)] {
						spans[:cap(spans)][l] = from(-9, -9)
					}
					_ = append(first[i].Rule[j][:k+1:k+1], relation(-9))
				}
			}
			for k, c := range first[i+1:] {
				if !same(c.Rule, before[i+1+k].Rule) {
					t.Errorf("Table of %s: rules %d and %d share memory", language, i, i+1+k)
				}
			}
		}
		for i, c := range plural.Table(language) {
			if c.Name != before[i].Name || !same(c.Rule, before[i].Rule) || c.Name == "scribble" {
				t.Errorf("Table of %s is another one at the next call", language)
			}
		}
	}
}

// TestCategory: P8.4 for the chapter's examples.
func TestCategory(t *testing.T) {
	for _, x := range []struct {
		language string
		n        int64
		want     string
	}{
		{"en", 1, "one"}, {"en", 2, "other"}, {"xx", 1, "other"},
		{"ru", 1, "one"}, {"ru", 3, "few"}, {"ru", 11, "many"}, {"ru", 21, "one"}, {"ru", 25, "many"}, {"ru", -1, "one"},
		{"en", 0, "other"}, {"en", -1, "one"}, {"de", 1, "one"}, {"de", 11, "other"},
		{"fr", 0, "one"}, {"fr", 1, "one"}, {"fr", -1, "one"}, {"fr", 2, "other"},
		{"ru", 0, "many"}, {"ru", 12, "many"}, {"ru", 14, "many"}, {"ru", 15, "many"}, {"ru", 22, "few"}, {"ru", 111, "many"}, {"ru", 112, "many"}, {"ru", 121, "one"}, {"ru", 1000000, "many"}, {"ru", 1000001, "one"},
		{"pl", 1, "one"}, {"pl", 21, "many"}, {"pl", 22, "few"}, {"pl", 12, "many"}, {"pl", 11, "many"}, {"pl", 101, "many"}, {"pl", 112, "many"}, {"pl", 0, "many"},
		{"cs", 1, "one"}, {"cs", 2, "few"}, {"cs", 4, "few"}, {"cs", 5, "other"}, {"cs", 22, "other"},
		{"ar", 0, "zero"}, {"ar", 1, "one"}, {"ar", 2, "two"}, {"ar", 3, "few"}, {"ar", 10, "few"}, {"ar", 11, "many"}, {"ar", 99, "many"}, {"ar", 100, "other"}, {"ar", 101, "other"}, {"ar", 102, "other"}, {"ar", 103, "few"}, {"ar", 200, "other"},
		{"sl", 1, "one"}, {"sl", 101, "one"}, {"sl", 2, "two"}, {"sl", 202, "two"}, {"sl", 3, "few"}, {"sl", 4, "few"}, {"sl", 104, "few"}, {"sl", 5, "other"}, {"sl", 0, "other"},
		{"cy", 0, "zero"}, {"cy", 1, "one"}, {"cy", 2, "two"}, {"cy", 3, "few"}, {"cy", 4, "other"}, {"cy", 5, "other"}, {"cy", 6, "many"}, {"cy", 7, "other"}, {"cy", -6, "many"},
		{"ru", math.MinInt64, "many"}, {"pl", math.MinInt64, "many"}, {"ar", math.MinInt64, "few"}, {"sl", math.MinInt64, "other"}, {"en", math.MinInt64, "other"},
		{"ru", math.MaxInt64, "many"}, {"ar", math.MaxInt64, "few"}, {"", 1, "other"}, {"EN", 1, "other"},
	} {
		checkCategory(t, x.language, x.n, x.want)
	}
}

// TestCategories: P8.4 for every language at many numbers, held against a reckoning without rules.
func TestCategories(t *testing.T) {
	var all []int64
	for n := int64(0); n <= 250; n++ {
		all = append(all, n, -n, 999900+n, -999900-n, 1000000000+n, 1<<32+n, math.MaxInt64-n, math.MinInt64+n)
	}
	for _, line := range strings.Split(table, "\n") {
		language, _, _ := strings.Cut(line, " ")
		for _, n := range all {
			checkCategory(t, language, n, slowCategory(language, n))
		}
	}
	for _, language := range strangers {
		for _, n := range numbers {
			checkCategory(t, language, n, "other")
		}
	}
}
