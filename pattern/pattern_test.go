package pattern_test

import (
	"math"
	"slices"
	"strconv"
	"strings"
	"testing"

	"hornbook/api"
	"hornbook/pattern"
)

// around answers lists in which a part stands alone, and among others, in branches too.
func around(part api.Part) map[string][]api.Part {
	return map[string][]api.Part{
		"alone":                     parts(part),
		"behind an argument":        parts(arg("a"), part),
		"ahead of an argument":      parts(part, arg("a")),
		"in a branch of a plural":   parts(plural("n", when("other", part))),
		"in the first branch":       parts(plural("n", when("=1", part), when("other", text("x")))),
		"in the last branch":        parts(choose("s", when("a", text("x")), when("other", part))),
		"in a branch in a branch":   parts(choose("s", when("other", plural("n", when("few", arg("a"), part), when("other"))))),
		"behind a choice and a bit": parts(choose("s", when("other")), arg("b"), part),
	}
}

// TestName: P9.1 for names of every length around MaxWord, and every byte at each place.
func TestName(t *testing.T) {
	for _, x := range []struct {
		s    string
		want bool
	}{
		{"", false}, {"a", true}, {"z", true}, {"m", true}, {"aa", true}, {"a0", true}, {"a9", true}, {"a_", true}, {"z_9", true},
		{"0", false}, {"9", false}, {"_", false}, {"0a", false}, {"_a", false}, {"1_", false}, {"__", false},
		{"A", false}, {"Z", false}, {"Aa", false}, {"aA", false}, {"aZ", false}, {"nAme", false},
		{" ", false}, {" a", false}, {"a ", false}, {"a b", false}, {"a-b", false}, {"a.b", false}, {"a,", false}, {"{a}", false}, {"=1", false}, {"a=", false},
		{"a\x00", false}, {"\x00", false}, {"a\n", false}, {"\xff", false}, {"a\xff", false}, {"ä", false}, {"aä", false}, {"аb", false},
		{"other", true}, {"plural", true}, {"select", true}, {"who", true}, {"n_1", true},
	} {
		if got := pattern.Name(x.s); got != x.want {
			t.Errorf("Name(%q) is %t", x.s, got)
		}
	}
	for _, c := range []string{"a", "z", "a0", "a_9"} {
		for n := 1; n <= 70; n++ {
			s := strings.Repeat(c, n)[:n]
			if got := pattern.Name(s); got != (n <= 32) {
				t.Errorf("Name(%q) of %d bytes is %t", s, n, got)
			}
		}
	}
	if pattern.Name(strings.Repeat("a", 1<<20)) {
		t.Error("Name of 2^20 bytes is true")
	}
	for c := range 256 {
		b := string([]byte{byte(c)})
		for _, s := range []string{b, "a" + b, "a" + b + "c", strings.Repeat("a", 31) + b, b + strings.Repeat("a", 31)} {
			if got, want := pattern.Name(s), aName.MatchString(s); got != want {
				t.Errorf("Name(%q) is %t", s, got)
			}
		}
	}
}

// TestNamesOfParts: P9.1 for the names of arguments and choices, and the keys of a PSelect.
func TestNamesOfParts(t *testing.T) {
	for _, name := range []string{"", "a", "z9_", "0", "_", "_a", "0a", "A", "aA", "a b", "a-", "=0", "ä", "a\xff", "a\x00", "a'", "a}", "a,", "#",
		strings.Repeat("a", 31), strings.Repeat("a", 32), strings.Repeat("a", 33), strings.Repeat("_", 32), strings.Repeat("a", 1<<16)} {
		right := aName.MatchString(name)
		for _, part := range []api.Part{
			arg(name),
			plural(name, when("other")),
			choose(name, when("other")),
			choose("s", when(name), when("other")),
			choose("s", when("x"), when(name, text("y")), when("other")),
		} {
			for place, l := range around(part) {
				if !right {
					checkWrong(t, "name "+brief(name)+" "+place, l, api.ErrTree)
				} else {
					checkRight(t, "name "+brief(name)+" "+place, l, api.OK)
				}
				checkDefined(t, "name "+brief(name)+" "+place, l)
			}
		}
	}
}

// TestNilAndEmpty: P9.1 to P9.3 for the pattern without parts, and lists that are empty or nil.
func TestNilAndEmpty(t *testing.T) {
	for _, x := range []struct {
		name string
		l    []api.Part
		want string
	}{
		{"nil", nil, ""},
		{"empty", []api.Part{}, ""},
		{"a text with an empty list", parts(api.Part{Kind: api.PText, Text: "a", Cases: []api.Case{}}), "a"},
		{"an argument with an empty list", parts(api.Part{Kind: api.PArg, Name: "a", Cases: []api.Case{}}), "{a}"},
		{"a hash with an empty list", parts(plural("n", when("other", api.Part{Kind: api.PHash, Cases: []api.Case{}}))), "{n, plural, other {#}}"},
		{"a branch without parts, nil", parts(plural("n", when("other"))), "{n, plural, other {}}"},
		{"a branch without parts, empty", parts(choose("n", when("other", []api.Part{}...))), "{n, select, other {}}"},
		{"branches without parts", parts(choose("n", when("a"), when("other"))), "{n, select, a {} other {}}"},
	} {
		checkRight(t, x.name, x.l, api.OK)
		checkPrint(t, x.name, x.l, x.want, api.OK)
		checkParse(t, x.name, x.want, x.l, api.OK, 0)
		checkDefined(t, x.name, x.l)
	}
	checkUses(t, "nil", nil, nil)
	checkUses(t, "empty", []api.Part{}, nil)
	for _, kind := range []int{api.PPlural, api.PSelect} {
		for place, l := range around(api.Part{Kind: kind, Name: "a"}) {
			checkWrong(t, "nil cases "+place, l, api.ErrTree)
		}
		for place, l := range around(api.Part{Kind: kind, Name: "a", Cases: []api.Case{}}) {
			checkWrong(t, "empty cases "+place, l, api.ErrTree)
		}
	}
}

// TestFields: P9.1 for each kind with each field set or not, and for kinds that there are not.
func TestFields(t *testing.T) {
	kinds := []int{api.PText, api.PArg, api.PHash, api.PPlural, api.PSelect}
	for _, kind := range append(kinds, 0, -1, 6, 7, 256+1, 1<<32+2, math.MaxInt, math.MinInt) {
		for set := range 8 {
			part := api.Part{Kind: kind}
			if set&1 > 0 {
				part.Text = "x"
			}
			if set&2 > 0 {
				part.Name = "x"
			}
			if set&4 > 0 {
				part.Cases = []api.Case{when("other")}
			}
			want := map[int]int{api.PText: 1, api.PArg: 2, api.PHash: 0, api.PPlural: 6, api.PSelect: 6}
			fields, is := want[kind]
			name := "kind " + strconv.Itoa(kind) + " with fields " + strconv.Itoa(set)
			inPlural := parts(plural("n", when("other", part)))
			if is && fields == set {
				checkRight(t, name, inPlural, api.OK)
			} else {
				checkWrong(t, name, inPlural, api.ErrTree)
				checkWrong(t, name, parts(part), api.ErrTree)
			}
			for place, l := range around(part) {
				checkDefined(t, name+" "+place, l)
			}
		}
	}
}

// TestTexts: P9.1 to P9.3 for texts side by side and apart, empty ones, and those of any bytes.
func TestTexts(t *testing.T) {
	a, b := text("a"), text("b")
	for _, x := range []struct {
		name string
		l    []api.Part
	}{
		{"two texts", parts(a, b)},
		{"the same text twice", parts(a, a)},
		{"two texts at the end", parts(arg("x"), a, b)},
		{"two texts at the beginning", parts(a, b, arg("x"))},
		{"two texts in the middle", parts(arg("x"), a, b, arg("x"))},
		{"three texts", parts(a, b, a)},
		{"two texts in a branch", parts(plural("n", when("other", a, b)))},
		{"two texts in the first branch", parts(choose("n", when("x", a, b), when("other", a)))},
		{"two texts in a branch in a branch", parts(choose("n", when("other", plural("n", when("other", hash(), a, b)))))},
		{"an empty text", parts(text(""))},
		{"an empty text behind another part", parts(arg("x"), text(""))},
		{"an empty text ahead of another part", parts(text(""), arg("x"))},
		{"an empty text behind a text", parts(a, text(""))},
		{"an empty text ahead of a text", parts(text(""), a)},
		{"an empty text in a branch", parts(choose("n", when("other", text(""))))},
	} {
		checkWrong(t, x.name, x.l, api.ErrTree)
		checkDefined(t, x.name, x.l)
	}
	for _, x := range []struct {
		name string
		l    []api.Part
		want string
	}{
		{"texts around an argument", parts(a, arg("x"), b), "a{x}b"},
		{"texts around a hash", parts(plural("n", when("other", a, hash(), b))), "{n, plural, other {a#b}}"},
		{"texts around a choice", parts(a, choose("n", when("other", b)), a), "a{n, select, other {b}}a"},
		{"texts at the ends of branches", parts(choose("n", when("x", a), when("other", b)), a), "{n, select, x {a} other {b}}a"},
	} {
		checkRight(t, x.name, x.l, api.OK)
		checkPrint(t, x.name, x.l, x.want, api.OK)
		checkParse(t, x.name, x.want, x.l, api.OK, 0)
		checkDefined(t, x.name, x.l)
	}
	for _, x := range []struct{ s, want string }{
		{"'", "''"}, {"''", "''''"}, {"'''", "''''''"}, {"{", "'{'"}, {"}", "'}'"}, {"#", "'#'"},
		{"{}", "'{''}'"}, {"##", "'#''#'"}, {"'{'", "'''{'''"}, {"{'", "'{'''"}, {"'#", "'''#'"}, {"}'}", "'}''''}'"},
		{"it's", "it''s"}, {"a{b}c#d'e", "a'{'b'}'c'#'d''e"}, {"{n, plural, other {#}}", "'{'n, plural, other '{''#''}''}'"},
		{" ", " "}, {"\n\t\r", "\n\t\r"}, {"\x00", "\x00"}, {"a\x00b", "a\x00b"}, {"\"`\\", "\"`\\"}, {"%s$&~", "%s$&~"}, {"=,_-.", "=,_-."},
		{"\xff\xfe", "\xff\xfe"}, {"\x80", "\x80"}, {"\xc3", "\xc3"}, {"\xc3'", "\xc3''"}, {"\xff{\xff", "\xff'{'\xff"}, {"\xe2\x82", "\xe2\x82"},
		{"ä€😀", "ä€😀"}, {"ä'€{", "ä''€'{'"}, {"＃｛", "＃｛"}, {"\u00a0\u2019", "\u00a0\u2019"}, {"\ufffd", "\ufffd"}, {"\ufeff", "\ufeff"},
	} {
		for _, l := range around(text(x.s)) {
			checkDefined(t, "text "+brief(x.s), l)
		}
		checkPrint(t, "text", parts(text(x.s)), x.want, api.OK)
		checkParse(t, "text", x.want, parts(text(x.s)), api.OK, 0)
		checkPrint(t, "text", parts(plural("n", when("other", text(x.s), hash()))), "{n, plural, other {"+x.want+"#}}", api.OK)
	}
	for c := range 256 {
		s := string([]byte{byte(c)})
		checkDefined(t, "a byte", parts(text(s)))
		checkDefined(t, "a byte in a branch", parts(choose("n", when("other", arg("a"), text("x"+s+s)))))
	}
}

// TestHash: P9.1 for a PHash at the places where it may stand, and where it may not.
func TestHash(t *testing.T) {
	for _, x := range []struct {
		name string
		l    []api.Part
		want string
	}{
		{"alone", parts(hash()), ""},
		{"behind a text", parts(text("a"), hash()), ""},
		{"behind a plural", parts(plural("n", when("other")), hash()), ""},
		{"behind a plural with a hash", parts(plural("n", when("other", hash())), hash()), ""},
		{"ahead of a plural", parts(hash(), plural("n", when("other"))), ""},
		{"in a select", parts(choose("s", when("other", hash()))), ""},
		{"in the first branch of a select", parts(choose("s", when("a", hash()), when("other"))), ""},
		{"in a select in a select", parts(choose("s", when("other", choose("s", when("other", hash()))))), ""},
		{"in a select behind a plural", parts(plural("n", when("other", hash())), choose("s", when("other", hash()))), ""},
		{"in a select behind a plural in it", parts(choose("s", when("other", plural("n", when("other", hash())), hash()))), ""},
		{"in a select's second branch, behind one with a plural", parts(choose("s", when("a", plural("n", when("other", hash()))), when("other", hash()))), ""},
		{"in an argument in a plural", parts(plural("n", when("other", api.Part{Kind: api.PArg, Name: "a", Cases: []api.Case{when("other", hash())}}))), ""},

		{"in a plural", parts(plural("n", when("other", hash()))), "{n, plural, other {#}}"},
		{"in the first branch of a plural", parts(plural("n", when("=0", hash()), when("other"))), "{n, plural, =0 {#} other {}}"},
		{"twice", parts(plural("n", when("other", hash(), hash()))), "{n, plural, other {##}}"},
		{"in a plural in a plural", parts(plural("n", when("other", plural("m", when("other", hash()))))), "{n, plural, other {{m, plural, other {#}}}}"},
		{"in a plural behind a plural in it", parts(plural("n", when("other", plural("m", when("other")), hash()))), "{n, plural, other {{m, plural, other {}}#}}"},
		{"in a select in a plural", parts(plural("n", when("other", choose("s", when("other", hash()))))), "{n, plural, other {{s, select, other {#}}}}"},
		{"in a select in a select in a plural", parts(plural("n", when("other", choose("s", when("other", choose("s", when("a", hash()), when("other"))))))), "{n, plural, other {{s, select, other {{s, select, a {#} other {}}}}}}"},
		{"in a plural in a select", parts(choose("s", when("other", plural("n", when("other", hash()))))), "{s, select, other {{n, plural, other {#}}}}"},
		{"behind a select in a plural", parts(plural("n", when("other", choose("s", when("other")), hash()))), "{n, plural, other {{s, select, other {}}#}}"},
	} {
		if x.want == "" {
			checkWrong(t, x.name, x.l, api.ErrTree)
		} else {
			checkRight(t, x.name, x.l, api.OK)
			checkPrint(t, x.name, x.l, x.want, api.OK)
			checkParse(t, x.name, x.want, x.l, api.OK, 0)
		}
		checkDefined(t, x.name, x.l)
	}
}

// TestKeys: P9.1 for every kind of key of a PPlural and of a PSelect.
func TestKeys(t *testing.T) {
	for _, x := range []struct {
		key              string
		inPlural, inPick bool
	}{
		{"zero", true, true}, {"one", true, true}, {"two", true, true}, {"few", true, true}, {"many", true, true},
		{"three", false, true}, {"some", false, true}, {"all", false, true}, {"ones", false, true}, {"on", false, true}, {"others", false, true}, {"othe", false, true}, {"n", false, true}, {"a_1", false, true},
		{"One", false, false}, {"ONE", false, false}, {"Other", false, false}, {"OTHER", false, false}, {" one", false, false}, {"one ", false, false}, {"one\x00", false, false}, {"", false, false}, {" ", false, false},
		{"=0", true, false}, {"=1", true, false}, {"=2", true, false}, {"=9", true, false}, {"=10", true, false}, {"=100", true, false}, {"=999999", true, false}, {"=1000000", true, false},
		{"=1000001", false, false}, {"=1000009", false, false}, {"=1000010", false, false}, {"=2000000", false, false}, {"=9999999", false, false}, {"=10000000", false, false}, {"=4294967296", false, false}, {"=18446744073709551617", false, false}, {"=" + strings.Repeat("9", 400), false, false},
		{"=", false, false}, {"=00", false, false}, {"=01", false, false}, {"=010", false, false}, {"=000", false, false}, {"=00000001", false, false},
		{"=-0", false, false}, {"=-1", false, false}, {"=+0", false, false}, {"=+1", false, false}, {"= 1", false, false}, {"=1 ", false, false}, {"=1.0", false, false}, {"=1e3", false, false}, {"=0x1", false, false}, {"=1_0", false, false}, {"=a", false, false}, {"=one", false, false}, {"=1a", false, false}, {"==1", false, false}, {"=1=", false, false}, {"=\x00", false, false}, {"=\xff", false, false}, {"=١", false, false},
		{"0", false, false}, {"1", false, false}, {"1=", false, false}, {"_", false, false}, {"{", false, false}, {"#", false, false},
	} {
		for _, y := range []struct {
			part  api.Part
			right bool
		}{
			{plural("n", when(x.key), when("other")), x.inPlural},
			{plural("n", when("=7"), when(x.key, text("a")), when("other")), x.inPlural},
			{choose("n", when(x.key), when("other")), x.inPick},
			{choose("n", when("a"), when(x.key, text("a")), when("other")), x.inPick},
		} {
			for place, l := range around(y.part) {
				name := "key " + brief(x.key) + " " + place
				if y.right {
					checkRight(t, name, l, api.OK)
				} else {
					checkWrong(t, name, l, api.ErrTree)
				}
				checkDefined(t, name, l)
			}
		}
		checkWrong(t, "last key "+brief(x.key), parts(plural("n", when("other"), when(x.key))), api.ErrTree)
		checkWrong(t, "last key "+brief(x.key), parts(choose("n", when("other"), when(x.key))), api.ErrTree)
		checkWrong(t, "only key "+brief(x.key), parts(plural("n", when(x.key))), api.ErrTree)
		checkWrong(t, "only key "+brief(x.key), parts(choose("n", when(x.key))), api.ErrTree)
	}
}

// TestOrderOfKeys: P9.1 for keys that are equal, and for `other` at every place.
func TestOrderOfKeys(t *testing.T) {
	for _, x := range []struct {
		keys             string
		inPlural, inPick bool
	}{
		{"other", true, true},
		{"one other", true, true},
		{"other one", false, false},
		{"one two", false, false},
		{"other other", false, false},
		{"one other other", false, false},
		{"other one other", false, false},
		{"one other two", false, false},
		{"one other two other", false, false},
		{"one one other", false, false},
		{"one two one other", false, false},
		{"one two two other", false, false},
		{"two one other", true, true},
		{"many few two one zero other", true, true},
		{"=1 =1 other", false, false},
		{"=1 one =1 other", false, false},
		{"=1 =10 other", true, false},
		{"=10 =1 =100 other", true, false},
		{"=1 one other", true, false},
		{"=0 zero =1 one =2 two few many other", true, false},
		{"a b c d e f g h i j k other", false, true},
		{"a b c d e f g h i j a other", false, false},
		{"a aa a_ a0 other", false, true},
	} {
		var cases []api.Case
		for i, key := range strings.Fields(x.keys) {
			cases = append(cases, when(key, text(strconv.Itoa(i))))
		}
		for _, y := range []struct {
			part  api.Part
			right bool
		}{{plural("n", cases...), x.inPlural}, {choose("n", cases...), x.inPick}} {
			for place, l := range around(y.part) {
				if y.right {
					checkRight(t, "keys "+x.keys+" "+place, l, api.OK)
				} else {
					checkWrong(t, "keys "+x.keys+" "+place, l, api.ErrTree)
				}
				checkDefined(t, "keys "+x.keys+" "+place, l)
			}
		}
	}
	same := parts(plural("n", when("one", choose("s", when("one"), when("other"))), when("other", choose("s", when("one"), when("other")))))
	checkRight(t, "the same keys in different choices", same, api.OK)
	checkDefined(t, "the same keys in different choices", same)
}

// TestManyCases: P9.1 for more cases than a text could have.
func TestManyCases(t *testing.T) {
	var cases []api.Case
	for n := range 3000 {
		cases = append(cases, when("="+strconv.Itoa(n*333)))
	}
	right := parts(plural("n", append(slices.Clone(cases), when("other"))...))
	checkRight(t, "3001 cases", right, api.OK)
	checkPrint(t, "3001 cases", right, "", api.ErrLong)
	checkUses(t, "3001 cases", right, []string{"n"})
	checkWrong(t, "3001 cases, the last one not other", parts(plural("n", cases...)), api.ErrTree)
	checkWrong(t, "3002 cases, two of them equal", parts(plural("n", append(slices.Clone(cases), when("=0"), when("other"))...)), api.ErrTree)
	checkWrong(t, "3001 cases, one of them wrong", parts(plural("n", append(slices.Clone(cases), when("=01"), when("other"))...)), api.ErrTree)
}

// TestUses: P9.1.
func TestUses(t *testing.T) {
	for _, x := range []struct {
		name string
		l    []api.Part
		want []string
	}{
		{"text", parts(text("abc")), nil},
		{"argument", parts(arg("a")), []string{"a"}},
		{"plural", parts(plural("n", when("other"))), []string{"n"}},
		{"select", parts(choose("s", when("other"))), []string{"s"}},
		{"keys", parts(choose("s", when("a"), when("b"), when("other", text("c")))), []string{"s"}},
		{"hash", parts(plural("n", when("other", hash()))), []string{"n"}},
		{"falling", parts(arg("c"), arg("b"), arg("a")), []string{"a", "b", "c"}},
		{"the same twice", parts(arg("a"), arg("a")), []string{"a"}},
		{"the same three times, apart", parts(arg("a"), arg("b"), arg("a"), arg("c"), arg("a")), []string{"a", "b", "c"}},
		{"the same as argument, plural and select", parts(arg("a"), plural("a", when("other", arg("a"))), choose("a", when("other", arg("a")))), []string{"a"}},
		{"inside branches", parts(plural("z", when("=1", arg("y")), when("other", choose("x", when("q", arg("w")), when("other", arg("v")))))), []string{"v", "w", "x", "y", "z"}},
		{"byte by byte", parts(arg("aa"), arg("a_"), arg("a0"), arg("a"), arg("b"), arg("a00")), []string{"a", "a0", "a00", "a_", "aa", "b"}},
		{"numbers in names", parts(arg("a9"), arg("a10"), arg("a1")), []string{"a1", "a10", "a9"}},
		{"too long to be printed", parts(text(strings.Repeat("a", 3000)), arg("b"), arg("a")), []string{"a", "b"}},

		{"not a pattern", parts(arg("a"), text("")), nil},
		{"not a pattern far inside", parts(arg("a"), choose("b", when("other", arg("c"), hash()))), nil},
		{"a wrong name", parts(arg("a"), arg("B")), nil},
		{"too many parts", slices.Repeat(parts(arg("a")), 1001), nil},
		{"too deep", nest(33, arg("a")), nil},
		{"many parts", slices.Repeat(parts(arg("b"), arg("a")), 500), []string{"a", "b"}},
		{"deep", nest(32, arg("b")), []string{"a", "b"}},
	} {
		checkUses(t, x.name, x.l, x.want)
		checkDefined(t, x.name, x.l)
	}
}

// nest is so many branches inside one another, of selects and plurals by turns, with the parts in the innermost one.
func nest(branches int, kids ...api.Part) []api.Part {
	for i := range branches {
		if i%2 == 0 {
			kids = parts(choose("a", when("other", kids...)))
		} else {
			kids = parts(plural("a", when("other", kids...)))
		}
	}
	return kids
}

// TestNest: P9.1 for branches inside one another, whatever the parts are.
func TestNest(t *testing.T) {
	odd := api.Part{Kind: 7}
	for branches := range 36 {
		for _, x := range []struct {
			name string
			l    []api.Part
			want api.Errno
		}{
			{"with nothing in the innermost", nest(branches), api.OK},
			{"with an argument", nest(branches, arg("a")), api.OK},
			{"behind and ahead of others", slices.Concat(nest(min(branches, 32)), parts(arg("x")), nest(branches, text("y")), nest(3)), api.OK},
			{"with a wrong part", nest(branches, odd), api.ErrTree},
			{"behind a wrong part", append(parts(odd), nest(branches)...), api.ErrTree},
			{"ahead of a wrong part", append(nest(branches), odd), api.ErrTree},
		} {
			if branches > 32 {
				x.want = api.ErrDeep
			}
			name := strconv.Itoa(branches) + " branches " + x.name
			if x.want == api.OK {
				checkRight(t, name, x.l, api.OK)
			} else {
				checkWrong(t, name, x.l, x.want)
			}
			checkDefined(t, name, x.l)
		}
		if branches == 0 {
			continue
		}
		for _, part := range []api.Part{
			{Kind: api.PText, Text: "a"}, {Kind: api.PText}, {Kind: api.PArg, Name: "a"}, {Kind: api.PHash}, {Kind: 0}, {Kind: 7}, {Kind: -1},
			{Kind: api.PPlural}, {Kind: api.PSelect, Name: "a", Text: "a"},
		} {
			for _, key := range []string{"other", ""} {
				part.Cases = []api.Case{when("x"), when(key, nest(branches-1)...)}
				want := api.ErrTree
				if branches > 32 {
					want = api.ErrDeep
				}
				checkWrong(t, strconv.Itoa(branches)+" branches in a part of kind "+strconv.Itoa(part.Kind), parts(part), want)
			}
		}
	}
	for _, branches := range []int{32, 33} {
		want := map[int]api.Errno{32: api.OK, 33: api.ErrDeep}[branches]
		first := parts(plural("n", when("one", nest(branches-1)...), when("few"), when("other")))
		checkRight(t, "in the first of three cases", first, want)
		last := parts(plural("n", when("one"), when("few"), when("other", nest(branches-1)...)))
		checkRight(t, "in the last of three cases", last, want)
		checkDefined(t, "in the first of three cases", first)
		checkDefined(t, "in the last of three cases", last)
	}
}

// row is so many parts side by side, no two of them texts.
func row(count int) []api.Part {
	var l []api.Part
	for i := range count {
		if i%2 == 0 {
			l = append(l, text("a"))
		} else {
			l = append(l, arg("b"))
		}
	}
	return l
}

// TestNodes: P9.1 for parts in total, side by side, in branches and inside one another, and for which error comes first.
func TestNodes(t *testing.T) {
	for count := 998; count <= 1003; count++ {
		for _, x := range []struct {
			name string
			l    []api.Part
			want api.Errno
		}{
			{"side by side", row(count), api.OK},
			{"in one branch", parts(plural("n", when("other", row(count-1)...))), api.OK},
			{"in two branches", parts(plural("n", when("one", row(500)...), when("other", row(count-501)...))), api.OK},
			{"ahead of a branch and in it", append(row(400), choose("n", when("other", row(count-401)...))), api.OK},
			{"in branches and behind them", append(parts(choose("n", when("other", row(count-401)...)), arg("a")), row(399)...), api.OK},
			{"in the innermost of 32 branches", nest(32, row(count-32)...), api.OK},
			{"in the innermost of 33 branches", nest(33, row(count-33)...), api.ErrDeep},
			{"behind 33 branches", append(nest(33), append(parts(arg("a")), row(count-34)...)...), api.ErrDeep},
			{"ahead of 33 branches", append(row(count-33), nest(33)...), api.ErrDeep},
			{"that are texts", slices.Repeat(parts(text("a")), count), api.ErrTree},
			{"of no kind", make([]api.Part, count), api.ErrTree},
			{"the last one wrong", append(row(count-1), hash()), api.ErrTree},
			{"the first one wrong", append(parts(hash()), row(count-1)...), api.ErrTree},
			{"in a text", parts(api.Part{Kind: api.PText, Text: "a", Cases: []api.Case{when("other", row(count-1)...)}}), api.ErrTree},
			{"in an argument", parts(api.Part{Kind: api.PArg, Name: "a", Cases: []api.Case{when("other", row(count-1)...)}}), api.ErrTree},
			{"in a hash", parts(api.Part{Kind: api.PHash, Cases: []api.Case{when("other", row(count-1)...)}}), api.ErrTree},
			{"in a part of no kind", parts(api.Part{Cases: []api.Case{when("a", row(count-1)...)}}), api.ErrTree},
			{"in a branch ahead of another", parts(choose("n", when("other", row(count-1)...), when("a"))), api.ErrTree},
			{"inside one another", nest(count), api.ErrDeep},
		} {
			if count > 1000 {
				x.want = api.ErrLong
			}
			name := strconv.Itoa(count) + " parts " + x.name
			if x.want == api.OK {
				checkRight(t, name, x.l, api.OK)
			} else {
				checkWrong(t, name, x.l, x.want)
			}
			if x.name != "inside one another" {
				checkDefined(t, name, x.l)
			}
		}
	}
	checkWrong(t, "2^17 parts", make([]api.Part, 1<<17), api.ErrLong)
	checkRight(t, "no more than branches without parts", parts(choose("n", append(manyCases(2000), when("other"))...)), api.OK)
}

// manyCases is so many cases without parts.
func manyCases(count int) []api.Case {
	var cases []api.Case
	for i := range count {
		cases = append(cases, when("k"+strconv.Itoa(i)))
	}
	return cases
}

// TestSharedLists: P1 and P9.1 for lists that contain themselves, or one another so often that they have no end.
func TestSharedLists(t *testing.T) {
	ring := parts(text("a"), plural("n", when("other")))
	ring[1].Cases[0].Kids = ring
	wrongRing := []api.Part{{Cases: []api.Case{when("x"), when("y")}}}
	wrongRing[0].Cases[1].Kids = wrongRing
	textRing := []api.Part{{Kind: api.PText, Text: "a", Cases: []api.Case{{Key: "other"}}}}
	textRing[0].Cases[0].Kids = textRing
	cases := choose("n", when("a"), when("other"))
	cases.Cases[0].Kids = parts(cases)
	doubled := parts(arg("a"))
	for range 60 {
		doubled = parts(choose("n", when("a", doubled...), when("other", doubled...)))
	}
	for name, l := range map[string][]api.Part{
		"a list in itself": ring, "a list of no kind in itself": wrongRing, "a list of texts in itself": textRing, "cases in themselves": parts(cases), "2^60 parts": doubled,
	} {
		if e := pattern.Right(l); e != api.ErrLong {
			t.Errorf("%s: Right answers %d", name, e)
		}
		if s, e := pattern.Print(l); s != "" || e != api.ErrLong {
			t.Errorf("%s: Print answers %s, %d", name, brief(s), e)
		}
		if names := pattern.Uses(l); len(names) > 0 {
			t.Errorf("%s: Uses answers %q", name, names)
		}
	}
	shared := parts(arg("a"), text("b"))
	l := parts(plural("n", when("one", shared...), when("few", shared...), when("other", shared...)), arg("c"))
	checkPrint(t, "a list three times", l, "{n, plural, one {{a}b} few {{a}b} other {{a}b}}{c}", api.OK)
	checkDefined(t, "a list three times", l)
}

// TestPrint: P9.2 for patterns whose texts are written out here; and P9.3 the other way.
func TestPrint(t *testing.T) {
	for _, x := range []struct {
		want string
		l    []api.Part
	}{
		{"", nil},
		{"a", parts(text("a"))},
		{"{a}", parts(arg("a"))},
		{"{a}{b}{a}", parts(arg("a"), arg("b"), arg("a"))},
		{" {a} ", parts(text(" "), arg("a"), text(" "))},
		{"Hi {who}, it''s '{'", parts(text("Hi "), arg("who"), text(", it's {"))},
		{"{n, plural, =0 {none} one {#} other {# of {m}}}", parts(plural("n", when("=0", text("none")), when("one", hash()), when("other", hash(), text(" of "), arg("m"))))},
		{"{n, plural, other {}}", parts(plural("n", when("other")))},
		{"{n, select, other {}}", parts(choose("n", when("other")))},
		{"{plural, plural, other {}}", parts(plural("plural", when("other")))},
		{"{select, select, select {select} plural {plural} other {}}", parts(choose("select", when("select", text("select")), when("plural", text("plural")), when("other")))},
		{"{n, plural, =1000000 {m} zero {z} one {o} two {t} few {f} many {y} other {r}}", parts(plural("n", when("=1000000", text("m")), when("zero", text("z")), when("one", text("o")), when("two", text("t")), when("few", text("f")), when("many", text("y")), when("other", text("r"))))},
		{"{g, select, she {her} other {their}} {x}", parts(choose("g", when("she", text("her")), when("other", text("their"))), text(" "), arg("x"))},
		{"a{n, plural, other {b{s, select, x {c#'#'} other {{y}}}d}}e", parts(text("a"), plural("n", when("other", text("b"), choose("s", when("x", text("c"), hash(), text("#")), when("other", arg("y"))), text("d"))), text("e"))},
		{"{n, plural, =0 {=0} other { other }}", parts(plural("n", when("=0", text("=0")), when("other", text(" other "))))},
		{"{n_0, plural, =0 { {a} } other {, plural,}}", parts(plural("n_0", when("=0", text(" "), arg("a"), text(" ")), when("other", text(", plural,"))))},
		{"{n, plural, other {'#'#'{''}'''}}", parts(plural("n", when("other", text("#"), hash(), text("{}'"))))},
	} {
		checkPrint(t, x.want, x.l, x.want, api.OK)
		checkParse(t, x.want, x.want, x.l, api.OK, 0)
		checkDefined(t, x.want, x.l)
	}
}

// TestPrintLong: P9.2 and P9.3 for texts of nearly as many bytes as may be, of as many, and of more, with the last ones of each kind.
func TestPrintLong(t *testing.T) {
	for name, fill := range map[string]func(s string) []api.Part{
		"a text":               func(s string) []api.Part { return parts(text(s)) },
		"a text and quotes":    func(s string) []api.Part { return parts(text(s + "''")) },
		"a text and a brace":   func(s string) []api.Part { return parts(text(s + "{")) },
		"a brace and a text":   func(s string) []api.Part { return parts(text("}#'" + s)) },
		"an argument":          func(s string) []api.Part { return parts(text(s), arg("name")) },
		"ahead of an argument": func(s string) []api.Part { return parts(arg("name"), text(s)) },
		"a plural":             func(s string) []api.Part { return parts(text(s), plural("n", when("other"))) },
		"in a plural":          func(s string) []api.Part { return parts(plural("n", when("other", text(s)))) },
		"in a first case":      func(s string) []api.Part { return parts(plural("n", when("=1", text(s)), when("other", hash()))) },
		"ahead of a hash":      func(s string) []api.Part { return parts(plural("n", when("other", text(s), hash()))) },
		"in a select":          func(s string) []api.Part { return parts(choose("n", when("a", text(s)), when("other"))) },
		"ahead of many cases":  func(s string) []api.Part { return parts(text(s), choose("n", append(manyCases(90), when("other"))...)) },
		"deep inside":          func(s string) []api.Part { return nest(32, text(s)) },
		"ahead of many parts":  func(s string) []api.Part { return append(parts(text(s), arg("a")), row(900)...) },
	} {
		for size := 1990; size <= 2010; size++ {
			probe := fill("x")
			s := strings.Repeat("x", max(1, size-len(written(probe))+1))
			l := fill(s)
			want := written(l)
			if len(want) != size && len(written(probe)) < size || slowRight(l) != api.OK {
				t.Fatalf("%s: the test's own pattern has %d bytes, not %d", name, len(want), size)
			}
			checkRight(t, name, l, api.OK)
			if len(want) <= 2000 {
				checkPrint(t, name, l, want, api.OK)
				checkParse(t, name, want, l, api.OK, 0)
			} else {
				checkPrint(t, name, l, "", api.ErrLong)
				checkParse(t, name, want, nil, api.ErrLong, 0)
			}
			checkDefined(t, name, l)
			checkWrong(t, name+" and a wrong part", append(slices.Clone(l), hash()), api.ErrTree)
		}
	}
	for _, x := range []struct {
		c    string
		most int
	}{{"'", 1000}, {"{", 666}, {"}", 666}, {"#", 666}, {"\xff", 2000}} {
		for count := x.most - 1; count <= x.most+1; count++ {
			l := parts(text(strings.Repeat(x.c, count)))
			checkRight(t, "many of a byte", l, api.OK)
			if count > x.most {
				checkPrint(t, "many of a byte", l, "", api.ErrLong)
			}
			checkDefined(t, "many of a byte", l)
		}
	}
	long := parts(text(strings.Repeat("'", 1<<20)), arg("a"))
	checkRight(t, "2^20 bytes", long, api.OK)
	checkPrint(t, "2^20 bytes", long, "", api.ErrLong)
	checkUses(t, "2^20 bytes", long, []string{"a"})
}

// TestAnswersTheSame: what a call answers hangs on its argument alone, and is not touched by who writes into an earlier answer.
func TestAnswersTheSame(t *testing.T) {
	l := parts(plural("n", when("one", arg("b")), when("other", hash(), arg("a"))))
	first, _ := pattern.Print(l)
	names := pattern.Uses(l)
	for i := range names[:cap(names)] {
		names[:cap(names)][i] = "x"
	}
	pattern.Print(row(600))
	pattern.Print(nest(33))
	pattern.Parse("{x}'")
	checkPrint(t, "again", l, first, api.OK)
	checkUses(t, "again", l, []string{"a", "b", "n"})
}
