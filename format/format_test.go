package format_test

import (
	"math"
	"strconv"
	"strings"
	"testing"

	"hornbook/api"
	"hornbook/format"
)

const (
	least    = "-9223372036854775808"
	greatest = "9223372036854775807"
	files    = "{n, plural, =0 {none} one {# file} other {# files}}"
)

// TestExamples: the chapter's own, and P10.1 for each kind of part.
func TestExamples(t *testing.T) {
	she := "{g, select, she {her} other {their}} {x}"
	for _, x := range []struct {
		pattern, language string
		args              []api.Arg
		want              string
		e                 api.Errno
	}{
		{files, "en", with(number("n", 0)), "none", api.OK},
		{files, "en", with(number("n", 1)), "1 file", api.OK},
		{files, "en", with(number("n", 5)), "5 files", api.OK},
		{she, "", with(word("g", "she"), number("x", -3)), "her -3", api.OK},
		{she, "", with(word("g", "he"), number("x", -3)), "their -3", api.OK},
		{"{x}", "", nil, "", api.ErrMissing},
		{"{x, plural, other {}}", "", with(word("x", "")), "", api.ErrType},
		{"{x, plural, other {}}", "", with(word("x", "5")), "", api.ErrType},
		{"{x, select, other {}}", "", with(number("x", 0)), "", api.ErrType},
		{"{x, plural, other {}}", "", nil, "", api.ErrMissing},
		{"{x, select, other {}}", "", nil, "", api.ErrMissing},
		{"Hi {who}, it''s '{'{who}'}'", "de", with(word("who", "O'Hara {#}")), "Hi O'Hara {#}, it's {O'Hara {#}}", api.OK},
		{"{x}", "", with(word("x", "")), "", api.OK},
		{"{x}", "", with(number("x", 0)), "0", api.OK},
		{"{x}", "", with(word("x", "a\x00\xff")), "a\x00\xff", api.OK},
		{"\x00\xff{x}", "", with(number("x", 7)), "\x00\xff7", api.OK},
		{"{a}{b}{a}", "", with(number("b", 10), word("a", "-")), "-10-", api.OK},
		{"{n, plural, other {}}", "", with(number("n", 3)), "", api.OK},
		{"a{n, plural, other {b}}c", "", with(number("n", 3)), "abc", api.OK},
	} {
		checkFormat(t, x.pattern, parsed(t, x.pattern), x.language, x.args, x.want, x.e)
	}
}

// TestEmptyPattern: P10.1 for the pattern without parts: the arguments are looked at all the same.
func TestEmptyPattern(t *testing.T) {
	for _, l := range [][]api.Part{nil, {}} {
		checkFormat(t, "no arguments, nil", l, "en", nil, "", api.OK)
		checkFormat(t, "no arguments, empty", l, "en", []api.Arg{}, "", api.OK)
		checkFormat(t, "an argument", l, "", with(word("x", "y")), "", api.OK)
		checkFormat(t, "a wrong argument", l, "", with(word("X", "y")), "", api.ErrArg)
	}
}

// TestNoPattern: P10.1: the error of pattern.Right comes first, then that of the arguments, then those of the evaluation.
func TestNoPattern(t *testing.T) {
	many := make([]api.Part, 1001)
	for i := range many {
		many[i] = arg("x")
	}
	deep := parts(text("a"))
	for range 33 {
		deep = parts(choose("x", when("other", deep...)))
	}
	both := append(parts(deep...), many...)
	around := make([]api.Part, 1)
	around[0] = choose("x", when("other", around...))
	around[0].Cases[0].Kids = around
	for _, x := range []struct {
		name string
		l    []api.Part
		e    api.Errno
	}{
		{"1001 parts", many, api.ErrLong},
		{"1000 parts and a wrong one", append(parts(many[:1000]...), hash()), api.ErrLong},
		{"33 branches", deep, api.ErrDeep},
		{"33 branches and 1001 parts", both, api.ErrLong},
		{"a list that contains itself", around, api.ErrLong},
		{"a hash outside", parts(hash()), api.ErrTree},
		{"a hash in a select", parts(choose("x", when("other", hash()))), api.ErrTree},
		{"an empty text", parts(text("")), api.ErrTree},
		{"two texts", parts(text("a"), text("b")), api.ErrTree},
		{"no name", parts(arg("")), api.ErrTree},
		{"a name that is none", parts(arg("X")), api.ErrTree},
		{"a kind that is none", parts(api.Part{}), api.ErrTree},
		{"no other", parts(count("x", when("one"))), api.ErrTree},
		{"other in front", parts(choose("x", when("other"), when("a"))), api.ErrTree},
		{"a part behind it that is missing", parts(arg("missing"), text("")), api.ErrTree},
		{"a fault in a branch that is not chosen", parts(choose("w", when("a", text("")), when("other"))), api.ErrTree},
		{"a long text ahead of it", parts(text(strings.Repeat("a", 8001)), hash()), api.ErrTree},
	} {
		for name, args := range map[string][]api.Arg{
			"nothing":       nil,
			"an argument":   with(number("x", 1)),
			"wrong ones":    with(number("x", 1), number("x", 1)),
			"no name":       with(number("", 1)),
			"33 arguments":  manyArgs(33),
			"a wrong value": with(api.Arg{Name: "x", N: 1, S: "a"}),
		} {
			if x.name == "a list that contains itself" {
				if s, e := format.Format(x.l, "en", args); s != "" || e != x.e {
					t.Errorf("%s with %s: Format answers %s, %d", x.name, name, brief(s), e)
				}
				continue
			}
			checkFormat(t, x.name+" with "+name, x.l, "en", args, "", x.e)
		}
	}
}

// manyArgs are so many, each of another name.
func manyArgs(n int) []api.Arg {
	var args []api.Arg
	for i := range n {
		if i%2 == 0 {
			args = append(args, number("a"+strconv.Itoa(i), int64(i)))
		} else {
			args = append(args, word("a"+strconv.Itoa(i), strconv.Itoa(i)))
		}
	}
	return args
}

// TestNumberOfArguments: P10.1 for 0, 1, 32 and 33 arguments.
func TestNumberOfArguments(t *testing.T) {
	l := parsed(t, "{a0}")
	for n := range 70 {
		want, e := "0", api.OK
		switch {
		case n > 32:
			want, e = "", api.ErrArg
		case n == 0:
			want, e = "", api.ErrMissing
		}
		checkFormat(t, strconv.Itoa(n)+" arguments", l, "en", manyArgs(n), want, e)
	}
	all := ""
	for i := range 32 {
		all += "{a" + strconv.Itoa(i) + "}"
	}
	checkFormat(t, "all of them", parsed(t, all), "", manyArgs(32), "012345678910111213141516171819202122232425262728293031", api.OK)
	checkFormat(t, "one too many, and wrong", l, "", append(manyArgs(32), word("", "")), "", api.ErrArg)
}

// TestWrongArguments: P10.1 for arguments that are not valid, used or not, wherever they stand.
func TestWrongArguments(t *testing.T) {
	long := strings.Repeat("s", 8001)
	for name, wrong := range map[string][]api.Arg{
		"two of one name":            with(number("a", 1), number("a", 1)),
		"two of one name, apart":     with(number("a", 1), number("c", 1), word("a", "")),
		"two of one name and kind":   with(word("a", "x"), word("a", "y")),
		"no name":                    with(word("", "x")),
		"a capital":                  with(word("A", "x")),
		"a capital behind":           with(word("aA", "x")),
		"a digit first":              with(word("1a", "x")),
		"an underscore first":        with(word("_a", "x")),
		"a dash":                     with(word("a-b", "x")),
		"a blank":                    with(word("a ", "x")),
		"a byte that is no char":     with(word("a\xff", "x")),
		"33 bytes of a name":         with(number(strings.Repeat("a", 33), 1)),
		"a number with an S":         with(api.Arg{Name: "a", IsNum: true, N: 1, S: "1"}),
		"a number 0 with an S":       with(api.Arg{Name: "a", IsNum: true, S: "x"}),
		"a number with a zero byte":  with(api.Arg{Name: "a", IsNum: true, S: "\x00"}),
		"a string with an N":         with(api.Arg{Name: "a", N: 1, S: "1"}),
		"a string with an N below 0": with(api.Arg{Name: "a", N: -1, S: "x"}),
		"an empty string with an N":  with(api.Arg{Name: "a", N: 1}),
		"8001 bytes":                 with(word("a", long)),
		"8001 bytes and an N":        with(api.Arg{Name: "a", N: 1, S: long}),
		"2^20 bytes":                 with(word("a", strings.Repeat("s", 1<<20))),
	} {
		front := append(with(wrong...), word("w", "v"))
		behind := append(with(word("w", "v")), wrong...)
		for _, s := range []string{"", "x", "{w}", "{a}", "{missing}", "{w, plural, other {}}", "{w, select, other {{a}}}"} {
			for _, args := range [][]api.Arg{wrong, front, behind} {
				checkFormat(t, name+" for "+s, parsed(t, s), "en", args, "", api.ErrArg)
			}
		}
		checkFormat(t, name+" for a long text", parts(text(long)), "en", behind, "", api.ErrArg)
	}
}

// TestRightArguments: P10.1 for arguments that are just valid.
func TestRightArguments(t *testing.T) {
	name := strings.Repeat("n", 32)
	long := strings.Repeat("s", 8000)
	for _, x := range []struct {
		arg  api.Arg
		want string
	}{
		{word(name, "x"), "x"},
		{number(name, 1), "1"},
		{word("z9_", ""), ""},
		{word("a", long[:7999]), long[:7999]},
		{word("a", long), long},
		{word("other", "other"), "other"},
		{word("a", "7"), "7"},
		{word("a", "-"), "-"},
		{word("a", "\x00"), "\x00"},
		{number("a", 0), "0"},
		{number("a", -1), "-1"},
		{number("a", 1000001), "1000001"},
	} {
		checkFormat(t, "right", parts(arg(x.arg.Name)), "en", with(x.arg), x.want, api.OK)
		checkFormat(t, "not used", parts(text("t")), "en", with(x.arg), "t", api.OK)
		checkFormat(t, "among others", parts(arg(x.arg.Name)), "en", with(word("b", "B"), x.arg, number("c", 3)), x.want, api.OK)
	}
	checkFormat(t, "names that begin alike", parsed(t, "{a}{ab}{abc}"), "en", with(word("abc", "3"), word("a", "1"), word("ab", "2")), "123", api.OK)
	checkFormat(t, "a name that begins like another", parsed(t, "{ab}"), "en", with(word("a", "1"), word("abc", "3")), "", api.ErrMissing)
}

// TestNumbers: P10.1 for numbers of every size, as a PArg and as a PHash.
func TestNumbers(t *testing.T) {
	l := parsed(t, "{n} {n, plural, other {#}}")
	for n, want := range map[int64]string{
		math.MinInt64: least, math.MaxInt64: greatest, math.MinInt64 + 1: "-" + greatest,
		0: "0", 1: "1", -1: "-1", 9: "9", 10: "10", -10: "-10", 100: "100", 1000000: "1000000", -1000000: "-1000000",
		math.MaxInt32: "2147483647", math.MaxInt32 + 1: "2147483648", math.MinInt32 - 1: "-2147483649", math.MaxUint32 + 1: "4294967296",
	} {
		checkFormat(t, want, l, "en", with(number("n", n)), want+" "+want, api.OK)
	}
}

// TestHashes: P10.1: a PHash is the number of the innermost PPlural around it, whatever other branches are.
func TestHashes(t *testing.T) {
	args := with(number("n", 1), number("m", 22), number("k", -333), word("g", "she"))
	for s, want := range map[string]string{
		"{n, plural, other {#}}":                                                                                        "1",
		"{n, plural, other {#-#}}":                                                                                      "1-1",
		"{n, plural, other {{m, plural, other {#}}}}":                                                                   "22",
		"{n, plural, other {#{m, plural, other {#}}#}}":                                                                 "1221",
		"{n, plural, other {{m, plural, other {{k, plural, other {#}}#}}#}}":                                            "-333221",
		"{n, plural, other {{m, plural, other {}}#}}":                                                                   "1",
		"{n, plural, other {{g, select, she {#} other {}}}}":                                                            "1",
		"{n, plural, other {{g, select, other {#}}}}":                                                                   "1",
		"{n, plural, other {{g, select, other {{m, plural, other {#}}#}}#}}":                                            "2211",
		"{n, plural, other {{m, plural, other {{g, select, other {#}}}}{g, select, other {#}}}}":                        "221",
		"{g, select, other {{n, plural, other {#{g, select, other {#}}}}}}":                                             "11",
		"{n, plural, other {{n, plural, other {#}}}}":                                                                   "1",
		"{n, plural, other {#}}{m, plural, other {#}}{n, plural, other {#}}":                                            "1221",
		"{m, plural, =22 {{n, plural, one {#} other {no}}} other {no}}":                                                 "1",
		"{m, plural, =22 {{g, select, she {{n, plural, one {} other {no}}{k, plural, other {#}}#} other {}}} other {}}": "-33322",
		"{n, plural, other {{m}{g}{k}#}}":                                                                               "22she-3331",
	} {
		checkFormat(t, s, parsed(t, s), "en", args, want, api.OK)
	}
}

// TestKeys: P10.1: an exact key comes ahead of a category, and that ahead of other, wherever they stand.
func TestKeys(t *testing.T) {
	for _, x := range []struct {
		pattern, language string
		wants             map[int64]string
	}{
		{"{n, plural, =0 {zero} =1 {exact} =1000000 {million} one {one} other {other}}", "en",
			map[int64]string{0: "zero", 1: "exact", 1000000: "million", 1000001: "other", 2: "other", -1: "one", -1000000: "other", 10: "other", 999999: "other"}},
		{"{n, plural, one {one} =1000000 {million} =1 {exact} =0 {zero} other {other}}", "en",
			map[int64]string{0: "zero", 1: "exact", 1000000: "million", 1000001: "other", 2: "other", -1: "one", -1000000: "other"}},
		{"{n, plural, =2 {exact} one {one} other {other}}", "en", map[int64]string{1: "one", -1: "one", 2: "exact", -2: "other", 3: "other", 12: "other", 20: "other", 22: "other"}},
		{"{n, plural, zero {z} one {o} =1 {exact} other {other}}", "ar", map[int64]string{0: "z", 1: "exact", -1: "o", 2: "other"}},
		{"{n, plural, =0 {exact} zero {z} other {other}}", "ar", map[int64]string{0: "exact", 1: "other", 100: "other"}},
		{"{n, plural, zero {z} =0 {exact} other {other}}", "ar", map[int64]string{0: "exact"}},
		{"{n, plural, zero {z} other {other}}", "en", map[int64]string{0: "other"}},
		{"{n, plural, one {o} other {other}}", "fr", map[int64]string{0: "o", 1: "o", -1: "o", 2: "other"}},
		{"{n, plural, =3 {a} =13 {b} =31 {c} =30 {d} other {other}}", "", map[int64]string{3: "a", 13: "b", 31: "c", 30: "d", -3: "other", 1: "other", 303: "other", 0: "other"}},
		{"{n, plural, other {other}}", "ru", map[int64]string{0: "other", 1: "other", 2: "other", 5: "other", -21: "other"}},
		{"{n, plural, =5 {exact} other {other}}", "ru", map[int64]string{0: "other", 5: "exact", -5: "other", 55: "other"}},
		{"{n, plural, few {few} =3 {exact} many {many} other {other}}", "ru", map[int64]string{1: "other", 2: "few", 3: "exact", -3: "few", 5: "many", 11: "many", 21: "other", 23: "few"}},
		{"{n, plural, =1 {} one {one} other {other}}", "en", map[int64]string{1: "", -1: "one"}},
		{"{n, plural, one {} other {other}}", "en", map[int64]string{1: "", -1: "", 2: "other"}},
	} {
		for n, want := range x.wants {
			checkFormat(t, x.pattern+" "+decimal(n), parsed(t, x.pattern), x.language, with(number("n", n)), want, api.OK)
		}
	}
	extremes := parsed(t, "{n, plural, =0 {0} =1 {1} =1000000 {2} one {3} other {4}}")
	for _, n := range []int64{math.MinInt64, math.MaxInt64, math.MinInt64 + 1, -1000000} {
		checkFormat(t, "extremes", extremes, "en", with(number("n", n)), "4", api.OK)
	}
}

// TestLanguages: P10.1: the categories are those of the language itself, not of a locale that has it.
func TestLanguages(t *testing.T) {
	l := parsed(t, "{n, plural, zero {Z} one {O} two {T} few {F} many {M} other {X}}")
	numbers := []int64{0, 1, 2, 3, 4, 5, 6, 11, 12, 21, 22, 100, 101, 102, 103, 111, -1, -2}
	wants := map[string]string{
		"en": "XOXXXXXXXXXXXXXXOX",
		"de": "XOXXXXXXXXXXXXXXOX",
		"fr": "OOXXXXXXXXXXXXXXOX",
		"ru": "MOFFFMMMMOFMOFFMOF",
		"pl": "MOFFFMMMMMFMMFFMOF",
		"cs": "XOFFFXXXXXXXXXXXOF",
		"ar": "ZOTFFFFMMMMXXXFMOT",
		"sl": "XOTFFXXXXXXXOTFXOT",
		"cy": "ZOTFXXMXXXXXXXXXOT",
	}
	for _, language := range []string{"", "xx", "en-US", "de-CH-x", "EN", "en ", " en", "e", "enn", "ar-", "\xff\x00", "one"} {
		wants[language] = strings.Repeat("X", len(numbers))
	}
	for language, want := range wants {
		for i, n := range numbers {
			checkFormat(t, brief(language)+" "+decimal(n), l, language, with(number("n", n)), want[i:i+1], api.OK)
		}
	}
}

// TestSelects: P10.1: a case's key is the whole string, and other stands for all others.
func TestSelects(t *testing.T) {
	l := parsed(t, "{s, select, a {A} ab {AB} one {1} zero {} other {X}}")
	for s, want := range map[string]string{
		"a": "A", "ab": "AB", "one": "1", "zero": "", "other": "X",
		"": "X", "A": "X", "b": "X", "abc": "X", "a ": "X", " a": "X", "a\x00": "X", "=1": "X", "1": "X", "Other": "X", "é": "X", "\xff": "X", "a-b": "X",
		strings.Repeat("a", 33): "X", strings.Repeat("a", 8000): "X",
	} {
		checkFormat(t, "select by "+brief(s), l, "en", with(word("s", s)), want, api.OK)
	}
	long := strings.Repeat("k", 32)
	checkFormat(t, "a key of 32 bytes", parts(choose("s", when(long, text("L")), when("other"))), "", with(word("s", long)), "L", api.OK)
	checkFormat(t, "only other", parsed(t, "{s, select, other {X{s}}}"), "", with(word("s", "a")), "Xa", api.OK)
	checkFormat(t, "selects in selects", parsed(t, "{s, select, a {{t, select, a {1} other {2}}} other {{t, select, a {3} other {4}}}}"), "", with(word("s", "b"), word("t", "a")), "3", api.OK)
}

// TestFirstError: P10.1: the parts are evaluated in order, those of branches that are chosen alone.
func TestFirstError(t *testing.T) {
	args := with(number("n", 1), word("s", "a"))
	for s, want := range map[string]api.Errno{
		"{s, plural, other {}}{x}":                             api.ErrType,
		"{x}{s, plural, other {}}":                             api.ErrMissing,
		"{n, select, other {}}{x}":                             api.ErrType,
		"{x}{n, select, other {}}":                             api.ErrMissing,
		"{x, plural, other {}}{n, select, other {}}":           api.ErrMissing,
		"{n, select, other {}}{x, plural, other {}}":           api.ErrType,
		"{x, select, other {}}{n, select, other {}}":           api.ErrMissing,
		"{n, select, other {{x}}}":                             api.ErrType,
		"{s, plural, other {{x}}}":                             api.ErrType,
		"{x, plural, other {{n, select, other {}}}}":           api.ErrMissing,
		"{x, select, other {{n, select, other {}}}}":           api.ErrMissing,
		"a{n}{s}b{x}c":                                         api.ErrMissing,
		"{n, plural, one {{x}} other {}}{s, plural, other {}}": api.ErrMissing,
		"{n, plural, one {{s, plural, other {}}} other {}}{x}": api.ErrType,
		"{n, plural, one {} other {}}{s, plural, other {}}":    api.ErrType,
		"{s, select, a {{x}} other {}}":                        api.ErrMissing,
		"{s, select, a {{n, select, other {}}} other {{x}}}":   api.ErrType,
		"{n, plural, =1 {{x}} one {} other {}}":                api.ErrMissing,
		"{n, plural, =1 {a{s, plural, other {b}}} other {}}":   api.ErrType,
		"{n, plural, other {{n, plural, other {{x}}}#}}":       api.ErrMissing,
		// What is not chosen has no part in it.
		"{n, plural, =1 {ok} one {{x}} other {{s, plural, other {}}}}":           api.OK,
		"{n, plural, =0 {{x}} one {ok} other {{x}}}":                             api.OK,
		"{n, plural, =0 {{x}} one {{s, plural, other {}}} =1 {ok} other {{x}}}":  api.OK,
		"{n, plural, zero {{x}} many {{x}} other {ok}}":                          api.OK,
		"{s, select, b {{x}} a {ok} other {{n, select, other {}}}}":              api.OK,
		"{s, select, b {{x}} other {ok}}":                                        api.OK,
		"{s, select, a {{n, plural, other {ok}}} other {{x, plural, other {}}}}": api.OK,
	} {
		text := ""
		if want == api.OK {
			text = "ok"
		}
		checkFormat(t, s, parsed(t, s), "en", args, text, want)
	}
}

// filled is a text of so many bytes.
func filled(n int) string { return strings.Repeat("f", n) }

// TestLongOutputs: P10.1 for outputs of 7999, 8000 and 8001 bytes, whatever they are made of.
func TestLongOutputs(t *testing.T) {
	args := with(number("n", math.MinInt64), number("d", 5), word("s", filled(4000)), word("e", ""), word("l", filled(8000)), word("c", "x"))
	hashes := make([]api.Part, 400)
	for i := range hashes {
		hashes[i] = hash()
	}
	for name, x := range map[string]struct {
		l    []api.Part // its output has 8000 bytes
		want string
	}{
		"a text":                      {parts(text(filled(8000))), filled(8000)},
		"an argument":                 {parts(arg("l")), filled(8000)},
		"an argument and a text":      {parts(text(filled(4000)), arg("s")), filled(8000)},
		"two arguments":               {parts(arg("s"), arg("s")), filled(8000)},
		"a number last":               {parts(text(filled(7980)), arg("n")), filled(7980) + least},
		"a number first":              {parts(arg("n"), text(filled(7980))), least + filled(7980)},
		"a hash last":                 {parts(count("n", when("other", text(filled(7980)), hash()))), filled(7980) + least},
		"hashes":                      {parts(count("n", when("other", hashes...))), strings.Repeat(least, 400)},
		"in a plural":                 {parts(count("n", when("other", text(filled(8000))))), filled(8000)},
		"in a select":                 {parts(choose("c", when("x", arg("l")), when("other"))), filled(8000)},
		"ahead, in and behind":        {parts(text(filled(1)), count("n", when("other", arg("s"))), text(filled(3999))), filled(8000)},
		"in branches in branches":     {parts(count("n", when("other", arg("s"), choose("c", when("x", text(filled(3980)), hash()), when("other"))))), filled(7980) + least},
		"beside one that is too long": {parts(count("n", when("one", text(filled(8001))), when("other", text(filled(8000))))), filled(8000)},
		"with empty arguments":        {parts(arg("e"), arg("l"), arg("e")), filled(8000)},
	} {
		checkFormat(t, name, x.l, "en", args, x.want, api.OK)
		digit := parts(arg("d"))
		for where, d := range map[string][]api.Part{
			"a digit":            digit,
			"a hash":             parts(count("d", when("other", hash()))),
			"a text in a branch": parts(choose("c", when("x", text("5")), when("other"))),
			"a deep one":         parts(count("n", when("other", choose("c", when("other", digit...))))),
		} {
			checkFormat(t, name+" and "+where, append(parts(x.l...), d...), "en", args, "", api.ErrLong)
			checkFormat(t, where+" and "+name, append(parts(d...), x.l...), "en", args, "", api.ErrLong)
			checkFormat(t, name+" and "+where+", and one that is missing", append(append(parts(x.l...), d...), arg("missing")), "en", args, "", api.ErrLong)
			checkFormat(t, name+", one that is missing, and "+where, append(append(parts(x.l...), arg("missing")), d...), "en", args, "", api.ErrMissing)
			checkFormat(t, name+" and "+where+", and a wrong one", append(append(parts(x.l...), d...), choose("n", when("other"))), "en", args, "", api.ErrLong)
			checkFormat(t, name+", a wrong one, and "+where, append(append(parts(x.l...), choose("n", when("other"))), d...), "en", args, "", api.ErrType)
		}
		checkFormat(t, name+" and nothing more", append(parts(x.l...), arg("e"), count("d", when("other"))), "en", args, x.want, api.OK)
		checkFormat(t, name+" and one that is missing", append(parts(x.l...), arg("missing")), "en", args, "", api.ErrMissing)
	}
}

// TestLengths: P10.1 for texts and arguments of every length around MaxText.
func TestLengths(t *testing.T) {
	for n := 7990; n <= 8010; n++ {
		want, e := filled(n), api.OK
		if n > 8000 {
			want, e = "", api.ErrLong
		}
		half := n / 2
		args := with(number("n", 7), word("s", filled(half)), word("r", filled(n-half)))
		for name, l := range map[string][]api.Part{
			"text":                  parts(text(filled(n))),
			"arguments":             parts(arg("s"), arg("r")),
			"text and an argument":  parts(text(filled(half)), arg("r")),
			"text in a branch":      parts(count("n", when("other", text(filled(n))))),
			"text around a branch":  parts(text(filled(half)), choose("s", when("other")), text(filled(n-half))),
			"text in two branches":  parts(count("n", when("other", text(filled(half)))), count("n", when("other", text(filled(n-half))))),
			"arguments in branches": parts(choose("s", when("other", arg("s"), choose("r", when("other", arg("r")))))),
		} {
			checkFormat(t, name+" of "+strconv.Itoa(n), l, "", args, want, e)
		}
	}
	checkFormat(t, "a text of 2^20 bytes", parts(text(filled(1<<20))), "", nil, "", api.ErrLong)
	checkFormat(t, "2^20 bytes that are not chosen", parts(choose("s", when("a", text(filled(1<<20))), when("other", text("b")))), "", with(word("s", "")), "b", api.OK)
	long := with(word("l", filled(8000)))
	checkFormat(t, "one of 8000 bytes that is not used", parts(text(filled(8000))), "", long, filled(8000), api.OK)
	for n, e := range map[int]api.Errno{1: api.OK, 2: api.ErrLong, 999: api.ErrLong, 1000: api.ErrLong} {
		l := make([]api.Part, n)
		for i := range l {
			l[i] = arg("l")
		}
		checkDefined(t, strconv.Itoa(n)+" long arguments", l, "", long)
		if _, got := format.Format(l, "", long); got != e {
			t.Errorf("%d long arguments: Format answers %d", n, got)
		}
	}
}

// TestLargestPatterns: P10.1 for 1000 parts, and for 32 branches inside one another.
func TestLargestPatterns(t *testing.T) {
	many := make([]api.Part, 1000)
	for i := range many {
		many[i] = arg("n")
	}
	checkFormat(t, "1000 numbers of 8 digits", many, "en", with(number("n", 12345678)), strings.Repeat("12345678", 1000), api.OK)
	checkFormat(t, "1000 numbers of 9 digits", many, "en", with(number("n", 123456789)), "", api.ErrLong)
	deep := parts(hash())
	for range 32 {
		deep = parts(count("n", when("one", text("no")), when("other", append(deep, arg("s"))...)))
	}
	args := with(number("n", 4), word("s", "s"))
	checkFormat(t, "32 branches", deep, "en", args, "4"+strings.Repeat("s", 32), api.OK)
	checkFormat(t, "32 branches, the first one chosen", deep, "en", with(number("n", 1), word("s", "s")), "no", api.OK)
	checkFormat(t, "32 branches without the argument", deep, "en", with(number("n", 4)), "", api.ErrMissing)
	cases := make([]api.Case, 0, 999)
	for i := range 998 {
		cases = append(cases, when("="+strconv.Itoa(i), text(strconv.Itoa(i))))
	}
	wide := parts(count("n", append(cases, when("other", hash()))...))
	for _, n := range []int64{0, 1, 500, 997, 998, -1} {
		checkFormat(t, "999 cases", wide, "en", with(number("n", n)), decimal(n), api.OK)
	}
}
