package catalog_test

import (
	"slices"
	"strings"
	"testing"

	"hornbook/api"
	"hornbook/catalog"
)

// sized is a catalog whose encoding has so many bytes, about 2^17.
func sized(t *testing.T, n int) []api.Entry {
	t.Helper()
	l := some(80)
	for i := range l {
		l[i].Pattern = letters(1600)
	}
	for i, left := 0, n-len(written(l)); left != 0; i++ {
		more := max(-600, min(400, left)) // so that each length has four digits
		l[i].Pattern = letters(1600 + more)
		left -= more
	}
	if len(written(l)) != n || slowRight(l) != api.OK {
		t.Fatalf("%d bytes are not to be had", n)
	}
	return l
}

// TestBytes: P11.3 with the encodings written out; Parse reads them.
func TestBytes(t *testing.T) {
	for _, x := range []struct {
		l    []api.Entry
		want string
	}{
		{nil, "le"},
		{list(), "le"},
		{list(entry("", "a", "")), "ll0:1:a0:ee"},
		{list(entry("", "a", "b")), "ll0:1:a1:bee"},
		{list(entry("de", "a", "b")), "ll2:de1:a1:bee"},
		{list(entry("de-CH", "a.b", "{n}")), "ll5:de-CH3:a.b3:{n}ee"},
		{list(entry("", "a", "12:e")), "ll0:1:a4:12:eee"},
		{list(entry("", "a", "\x00\xff")), "ll0:1:a2:\x00\xffee"},
		{list(entry("", "a", "é")), "ll0:1:a2:éee"},
		{list(entry("1", "2", "3")), "ll1:11:21:3ee"},
		{list(entry("l", "e", "i0e")), "ll1:l1:e3:i0eee"},
		{both(), "ll0:2:hi2:Hiel2:de2:hi9:Hallo {w}ee"},
		{list(entry("", "a", "1"), entry("", "b", "2"), entry("a", "a", "3")), "ll0:1:a1:1el0:1:b1:2el1:a1:a1:3ee"},
		{list(entry(letters(32), letters(32), letters(2000))), "ll32:" + letters(32) + "32:" + letters(32) + "2000:" + letters(2000) + "ee"},
		{list(entry("", letters(10), letters(10))), "ll0:10:xxxxxxxxxx10:xxxxxxxxxxee"},
	} {
		checkBytes(t, "written out", x.l, x.want, api.OK)
		checkParse(t, "written out", x.want, x.l, api.OK)
		checkListDefined(t, "written out", x.l)
	}
	for _, l := range [][]api.Entry{three(), rising(), some(199), some(200)} {
		checkBytes(t, "more", l, written(l), api.OK)
		checkParse(t, "more", written(l), l, api.OK)
	}
}

// TestLongBytes: P11.3 for encodings of up to 131072 bytes and beyond.
func TestLongBytes(t *testing.T) {
	for _, n := range []int{131000, 131071, 131072} {
		l := sized(t, n)
		checkBytes(t, "long", l, written(l), api.OK)
		checkParse(t, "long", written(l), l, api.OK)
		checkParse(t, "long, without the last byte", written(l)[:n-1], nil, api.ErrEnd)
	}
	for _, n := range []int{131073, 131074, 131100, 140000} {
		l := sized(t, n)
		checkBytes(t, "too long", l, "", api.ErrLong)
		checkParse(t, "too long", written(l), nil, api.ErrLong)
		checkRight(t, "too long", l, api.OK)
		wrong := append(l, l[0])
		checkBytes(t, "too long and no catalog", wrong, "", api.ErrCatalog)
		checkParse(t, "too long and no catalog", written(wrong), nil, api.ErrLong)
	}
	l := sized(t, 131072)
	checkParse(t, "a byte behind", written(l)+"e", nil, api.ErrLong)
}

// TestParseErrors: P11.3 for strings that are no encodings, and for values that do not have the form.
func TestParseErrors(t *testing.T) {
	for _, x := range []struct {
		s    string
		want api.Errno
	}{
		{"", api.ErrEnd},
		{"l", api.ErrEnd},
		{"ll", api.ErrEnd},
		{"ll0:", api.ErrEnd},
		{"ll0:1:a1:be", api.ErrEnd},
		{"ll0:1:a1:b", api.ErrEnd},
		{"ll0:1:a1:", api.ErrEnd},
		{"ll0:1:a1", api.ErrEnd},
		{"ll0:1:a9:bee", api.ErrEnd},
		{"i0", api.ErrEnd},
		{"x", api.ErrByte},
		{"e", api.ErrByte},
		{" le", api.ErrByte},
		{"lex", api.ErrByte},
		{"lee", api.ErrByte},
		{"le\n", api.ErrByte},
		{"lele", api.ErrByte},
		{"ll0:1:a1:beee", api.ErrByte},
		{"ll0:1:a1:bee\x00", api.ErrByte},
		{"ll0:1:a1:beex", api.ErrByte},
		{"ll0:1:a01:bee", api.ErrByte},
		{"ll00:1:a1:bee", api.ErrByte},
		{"ll0:1:a2:bee", api.ErrEnd},
		{"ll0:1:a0:bee", api.ErrByte},
		{"i0ex", api.ErrByte},
		{"i01e", api.ErrByte},
		{"i-0e", api.ErrByte},
		{"0:x", api.ErrByte},
		{strings.Repeat("l", 31) + strings.Repeat("e", 31), api.ErrDeep},
		{strings.Repeat("l", 29) + "l0:1:a1:be" + strings.Repeat("e", 29), api.ErrDeep},
		{"l" + strings.Repeat("0:", 4000) + "e", api.ErrLong},
		{"l" + strings.Repeat("l0:1:a1:be", 1000) + "e", api.ErrLong},
		{"l" + strings.Repeat("0:", 65536) + "e", api.ErrLong},
		{letters(131073), api.ErrLong},
		{letters(131072), api.ErrByte},

		{"i0e", api.ErrCatalog},
		{"i1e", api.ErrCatalog},
		{"i-12e", api.ErrCatalog},
		{"0:", api.ErrCatalog},
		{"1:x", api.ErrCatalog},
		{"2:le", api.ErrCatalog},
		{"12:ll0:1:a1:bee", api.ErrCatalog},
		{"li0ee", api.ErrCatalog},
		{"l0:e", api.ErrCatalog},
		{"l1:ae", api.ErrCatalog},
		{"l0:1:a1:be", api.ErrCatalog},
		{"l2:lee", api.ErrCatalog},
		{"llee", api.ErrCatalog},
		{"ll0:ee", api.ErrCatalog},
		{"ll1:aee", api.ErrCatalog},
		{"ll0:1:aee", api.ErrCatalog},
		{"ll1:a1:bee", api.ErrCatalog},
		{"ll0:1:a1:b0:ee", api.ErrCatalog},
		{"ll0:1:a1:b1:cee", api.ErrCatalog},
		{"ll0:1:a1:blee", api.ErrEnd},
		{"ll0:1:a1:bleee", api.ErrCatalog},
		{"ll0:1:a1:bi0eee", api.ErrCatalog},
		{"ll0:1:a1:b1:c1:dee", api.ErrCatalog},
		{"lli0e1:a1:bee", api.ErrCatalog},
		{"ll0:i0e1:bee", api.ErrCatalog},
		{"ll0:i1e1:bee", api.ErrCatalog},
		{"ll0:1:ai0eee", api.ErrCatalog},
		{"ll0:1:ai1eee", api.ErrCatalog},
		{"lli0ei0ei0eee", api.ErrCatalog},
		{"llle1:a1:bee", api.ErrCatalog},
		{"ll0:le1:bee", api.ErrCatalog},
		{"ll0:1:aleee", api.ErrCatalog},
		{"ll0:l1:ae1:bee", api.ErrCatalog},
		{"ll0:1:al1:beee", api.ErrCatalog},
		{"lll0:1:a1:beee", api.ErrCatalog},
		{"lll0:e1:a1:bee", api.ErrCatalog},
		{"ll0:1:a1:bei0ee", api.ErrCatalog},
		{"ll0:1:a1:be0:e", api.ErrCatalog},
		{"li0el0:1:a1:bee", api.ErrCatalog},
		{"l0:l0:1:a1:bee", api.ErrCatalog},
		{"ll0:1:a1:belee", api.ErrCatalog},
		{"llel0:1:a1:bee", api.ErrCatalog},
		{strings.Repeat("l", 30) + strings.Repeat("e", 30), api.ErrCatalog},
		{strings.Repeat("l", 28) + "l0:1:a1:be" + strings.Repeat("e", 28), api.ErrCatalog},
		{"l" + strings.Repeat("0:", 3999) + "e", api.ErrCatalog},
		{"l" + strings.Repeat("le", 3999) + "e", api.ErrCatalog},
		{"l" + strings.Repeat("le", 201) + "e", api.ErrCatalog},
	} {
		checkParse(t, "written out", x.s, nil, x.want)
		checkParseDefined(t, "written out", x.s)
	}
}

// TestParseNoCatalogs: P11.3 for values of the form whose entries are no catalog; that the form is wrong anywhere comes ahead of that.
func TestParseNoCatalogs(t *testing.T) {
	for _, x := range []api.Entry{entry("", "", ""), entry("", "", "x"), entry("-", "a", "x"), entry("de-", "a", "x"), entry(letters(33), "a", "x"), entry("", letters(33), "x"), entry("", "a b", "x"), entry("", "a", "{"), entry("", "a", letters(2001)), entry("", "é", "x")} {
		for where, l := range everywhere(x) {
			checkParse(t, where, written(l), nil, api.ErrCatalog)
		}
	}
	a, b := entry("", "a", "1"), entry("de", "a", "2")
	for name, l := range map[string][]api.Entry{
		"falling": list(b, a), "one twice": list(a, a), "unlike patterns": list(a, entry("", "a", "2")), "falling keys": list(entry("", "b", ""), a), "case": list(entry("de", "a", ""), entry("DE", "a", "")),
	} {
		checkParse(t, name, written(l), nil, api.ErrCatalog)
	}
	for _, n := range []int{199, 200, 201, 202, 500, 999} {
		l, want, e, wrongErr := some(n), some(n), api.OK, api.ErrCatalog
		if n > 200 {
			want, e, wrongErr = nil, api.ErrLong, api.ErrLong
		}
		s := written(l)
		checkParse(t, "so many", s, want, e)
		checkParse(t, "so many, the last one wrong", written(at(l, n-1, entry("", "", "{"))), nil, wrongErr)
		checkParse(t, "so many, the first one last", written(append(l[1:], l[0])), nil, wrongErr)
		checkParse(t, "so many, and a text behind them", s[:len(s)-1]+"0:e", nil, api.ErrCatalog)
		checkParse(t, "so many, and a number ahead of them", "li0e"+s[1:], nil, api.ErrCatalog)
		checkParse(t, "so many, and a list of two texts", s[:len(s)-1]+"l0:1:aee", nil, api.ErrCatalog)
		checkParse(t, "so many, and a byte behind them", s+"e", nil, api.ErrByte)
	}
	checkParse(t, "1000 entries, of 4001 values", written(some(1000)), nil, api.ErrLong)
}

// spoiled is what written makes of entries, but with another value in place of one of them.
func spoiled(l []api.Entry, i int, value string) string {
	ahead, behind := written(l[:i]), written(l[i+1:])
	return ahead[:len(ahead)-1] + value + behind[1:]
}

// TestParseSpoiled: P11.3 for one element that does not have the form, wherever it stands, and among too many others too.
func TestParseSpoiled(t *testing.T) {
	for _, value := range []string{
		"i0e", "i7e", "0:", "1:a", "le", "l0:e", "l0:1:ae", "l0:1:a1:b0:e", "l0:1:a1:b1:ce", "l0:1:a1:blee", "l0:1:a1:bi0ee", "ll0:1:a1:bee",
		"li0e1:a1:be", "l0:i0e1:be", "l0:1:ai0ee", "lle1:a1:be", "l0:le1:be", "l0:1:alee", "li0ei0ei0ee", "ll0:e1:a1:be", "l0:l1:ae1:be", "l0:1:al1:bee",
	} {
		for _, n := range []int{1, 2, 3, 200, 201, 202, 500, 998} {
			for _, i := range []int{0, n / 2, n - 1} {
				s := spoiled(some(n), i, value)
				checkParse(t, "spoiled by "+value, s, nil, api.ErrCatalog)
				checkParse(t, "spoiled by "+value+", and a byte behind", s+"e", nil, api.ErrByte)
			}
		}
	}
}

// TestParseNearly: P11.3 for each string that differs from a catalog's bytes in one byte, has one more or one less, or is cut off.
func TestParseNearly(t *testing.T) {
	const bytes = "lie:-0123ax{"
	for _, l := range [][]api.Entry{nil, list(entry("", "a", "b")), list(entry("de", "a", "")), list(entry("", "a", "{n}"), entry("", "b", "x")), both(), list(entry("a", "a", "1"), entry("a", "b", "2"), entry("b", "a", "3"))} {
		s := written(l)
		for i := range len(s) + 1 {
			checkParseDefined(t, "cut off", s[:i])
			for j := range len(bytes) {
				c := bytes[j : j+1]
				checkParseDefined(t, "one more", s[:i]+c+s[i:])
				if i < len(s) {
					checkParseDefined(t, "another", s[:i]+c+s[i+1:])
				}
			}
			if i < len(s) {
				checkParseDefined(t, "one less", s[:i]+s[i+1:])
			}
		}
	}
}

// TestParseAnswersNewMemory: what a call answers is not touched by a later one.
func TestParseAnswersNewMemory(t *testing.T) {
	s := written(both())
	first, _ := catalog.Parse(s)
	second, _ := catalog.Parse(s)
	first[0] = entry("scribble", "scribble", "scribble")
	if !slices.Equal(second, both()) {
		t.Errorf("two answers share their memory: %s", brief(second))
	}
	checkParse(t, "again", s, both(), api.OK)
}
