package format_test

import (
	"slices"
	"strings"
	"testing"

	"hornbook/format"
)

// TestLocales: P10.2 for locales of one part and of several, and the empty text.
func TestLocales(t *testing.T) {
	for _, x := range []struct {
		s        string
		language string
		chain    []string
	}{
		{"de", "de", []string{"de", ""}},
		{"a", "a", []string{"a", ""}},
		{"z", "z", []string{"z", ""}},
		{"A", "A", []string{"A", ""}},
		{"Z", "Z", []string{"Z", ""}},
		{"0", "0", []string{"0", ""}},
		{"9", "9", []string{"9", ""}},
		{"DE", "DE", []string{"DE", ""}},
		{"de-CH", "de", []string{"de-CH", "de", ""}},
		{"de-CH-x", "de", []string{"de-CH-x", "de-CH", "de", ""}},
		{"1-2-3", "1", []string{"1-2-3", "1-2", "1", ""}},
		{"a-a-a", "a", []string{"a-a-a", "a-a", "a", ""}},
		{"de-1901-AZaz09", "de", []string{"de-1901-AZaz09", "de-1901", "de", ""}},
		{"xx-yy", "xx", []string{"xx-yy", "xx", ""}},
	} {
		checkLocale(t, x.s, true, x.language, x.chain)
		checkLocaleDefined(t, x.s)
	}
	checkLocale(t, "", false, "", []string{""})
	checkLocaleDefined(t, "")
}

// TestNoLocales: P10.2 for texts with an empty part, or with a byte that may not stand.
func TestNoLocales(t *testing.T) {
	for _, s := range []string{
		"-", "--", "-a", "a-", "a--b", "-a-b", "a-b-", "a-b--c", "a--", "--a", "a---b",
		"de_CH", "de CH", " de", "de ", "de.CH", "de,CH", "de/CH", "de\x00", "\x00", "de\n", "\n", "de\xff", "\xff", "dé", "é", "дe", "de-é", "de-CH\xc3", "de–CH", "de:CH", "de@x", "[", "`", "{", "٣",
	} {
		checkLocale(t, s, false, "", nil)
		checkLocaleDefined(t, s)
	}
}

// TestLocaleLengths: P10.2 for every length around MaxWord, with parts of every length.
func TestLocaleLengths(t *testing.T) {
	for part := 1; part <= 34; part++ {
		for n := range 70 {
			s := strings.Repeat(strings.Repeat("b", part)+"-", n)[:n]
			is := n >= 1 && n <= 32 && !strings.HasSuffix(s, "-")
			if got := format.Locale(s); got != is {
				t.Errorf("Locale(%s) is %t", brief(s), got)
			}
			checkLocaleDefined(t, s)
		}
	}
	long := strings.Repeat("x", 32)
	checkLocale(t, long, true, long, []string{long, ""})
	checkLocale(t, long+"x", false, "", nil)
	checkLocale(t, "a-"+long[:30], true, "a", []string{"a-" + long[:30], "a", ""})
	checkLocale(t, "a-"+long[:31], false, "", nil)
	checkLocale(t, long[:30]+"-a", true, long[:30], []string{long[:30] + "-a", long[:30], ""})
	checkLocale(t, long[:31]+"-", false, "", nil)
	checkLocale(t, long+"-", false, "", nil)
	checkLocale(t, long+"-a", false, "", nil)
	checkLocale(t, strings.Repeat("a", 1<<20), false, "", nil)
	checkLocale(t, strings.Repeat("a-", 1<<20)+"a", false, "", nil)
	checkLocale(t, strings.Repeat("-", 1<<20), false, "", nil)
}

// TestSixteenParts: P10.2 for the most parts that a locale has room for.
func TestSixteenParts(t *testing.T) {
	s := strings.Repeat("a-", 15) + "a"
	want := []string{""}
	for n := 1; n <= 31; n += 2 {
		want = slices.Insert(want, 0, s[:n])
	}
	checkLocale(t, s, true, "a", want)
	want[0] = s + "b"
	checkLocale(t, s+"b", true, "a", want)
	checkLocale(t, s+"-a", false, "", nil)
	if chain := format.Chain(s); len(chain) != 17 || chain[16] != "" || chain[15] != "a" {
		t.Errorf("Chain of sixteen parts answers %q", chain)
	}
}

// TestLocaleBytes: P10.2 for every byte first, last, in the middle and beside a dash.
func TestLocaleBytes(t *testing.T) {
	for c := range 256 {
		b := string([]byte{byte(c)})
		for _, s := range []string{b, b + "a", "a" + b, "a" + b + "c", "a-" + b, b + "-a", "a-" + b + "-c", "a-c" + b, "a-" + b + "c", strings.Repeat("a", 31) + b} {
			checkLocaleDefined(t, s)
		}
	}
}

// TestChainIsNew: R4: what is written into a chain is not seen in the next one.
func TestChainIsNew(t *testing.T) {
	for _, s := range []string{"", "de", "de-CH"} {
		chain := format.Chain(s)
		clear(chain)
		_ = append(chain[:0], "x")
		checkLocaleDefined(t, s)
	}
}

// FuzzLocale: P10.2 for any bytes.
func FuzzLocale(f *testing.F) {
	for _, s := range []string{"", "de", "de-CH-x", "a--b", "-", "a-", "é", strings.Repeat("a-", 16), strings.Repeat("a", 33)} {
		f.Add(s)
	}
	f.Fuzz(func(t *testing.T, s string) {
		checkLocaleDefined(t, s)
	})
}
