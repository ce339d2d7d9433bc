package pattern_test

import (
	"strconv"
	"strings"
	"testing"

	"hornbook/api"
	"hornbook/pattern"
)

// texts are those of patterns, with all that a text can have.
var texts = []string{
	"a",
	"{a}",
	"Hi {who}, it''s '{'",
	"''x'{''}''#'y''''",
	"{n, plural, =0 {none} one {#} other {# of {m}}}",
	"{g, select, she {her} other {their}} {x}",
	"{n, plural, =10 {a#{s, select, x_1 {#''} other {}}b} other {}}c",
	"{s, select, a {{n, plural, other {'#'#}}} other {{b}}}",
}

// err is a text, and the error that it has.
type err struct {
	s    string
	want api.Errno
	at   int
}

func checkErrors(t *testing.T, list []err) {
	t.Helper()
	for _, x := range list {
		checkParse(t, "written out", x.s, nil, x.want, x.at)
		checkParseDefined(t, "written out", x.s)
	}
}

// a32 is a name of 32 bytes.
var a32 = "a" + strings.Repeat("b", 31)

// TestParseErrorsOfTexts: P9.3 for what stands outside of placeholders.
func TestParseErrorsOfTexts(t *testing.T) {
	checkErrors(t, []err{
		{"#", api.ErrPattern, 0},
		{"a'b", api.ErrPattern, 2},
		{"}", api.ErrPattern, 0},

		// apostrophes
		{"'", api.ErrEnd, 1},
		{"a'", api.ErrEnd, 2},
		{"'''", api.ErrEnd, 3},
		{"'{", api.ErrEnd, 2},
		{"'}", api.ErrEnd, 2},
		{"'#", api.ErrEnd, 2},
		{"'{''", api.ErrEnd, 4},
		{"'a'", api.ErrPattern, 1},
		{"' '", api.ErrPattern, 1},
		{"'\x00", api.ErrPattern, 1},
		{"'\xff", api.ErrPattern, 1},
		{"'\"'", api.ErrPattern, 1},
		{"'{a", api.ErrPattern, 2},
		{"'{a'", api.ErrPattern, 2},
		{"'{}'", api.ErrPattern, 2},
		{"'{{'", api.ErrPattern, 2},
		{"'}}'", api.ErrPattern, 2},
		{"'##'", api.ErrPattern, 2},
		{"'#}", api.ErrPattern, 2},
		{"''''''' ", api.ErrPattern, 7},
		{"it's", api.ErrPattern, 3},
		{"{a}'x", api.ErrPattern, 4},
		{"{n, plural, other {'}}", api.ErrPattern, 21},
		{"{n, plural, other {'}'}", api.ErrEnd, 23},
		{"{n, plural, other {'#}}", api.ErrPattern, 21},
		{"'{a}'", api.ErrPattern, 2},
		{"'{'a}", api.ErrPattern, 4},

		// `#` and `}`
		{"a#", api.ErrPattern, 1},
		{"''#", api.ErrPattern, 2},
		{"{a}#", api.ErrPattern, 3},
		{"#{", api.ErrPattern, 0},
		{"{s, select, other {#}}", api.ErrPattern, 19},
		{"{s, select, a {x#} other {}}", api.ErrPattern, 16},
		{"{s, select, other {{s, select, other {#}}}}", api.ErrPattern, 38},
		{"{s, select, other {{n, plural, other {#}}#}}", api.ErrPattern, 41},
		{"{n, plural, other {#}}#", api.ErrPattern, 22},
		{"{n, plural, one {#} other {{s, select, other {#}}#}}#", api.ErrPattern, 52},
		{"a}", api.ErrPattern, 1},
		{"}{", api.ErrPattern, 0},
		{"{a}}", api.ErrPattern, 3},
		{"{a} }", api.ErrPattern, 4},
		{"{n, plural, other {}}}", api.ErrPattern, 21},
		{"{n, plural, other {{a}}}}", api.ErrPattern, 24},
		{"''}", api.ErrPattern, 2},
		{"'}'}", api.ErrPattern, 3},
	})
}

// TestParseErrorsOfPlaceholders: P9.3 for arguments and for what begins a choice.
func TestParseErrorsOfPlaceholders(t *testing.T) {
	checkErrors(t, []err{
		{"{a", api.ErrEnd, 2},
		{"{", api.ErrEnd, 1},
		{"a{", api.ErrEnd, 2},
		{"{a}{", api.ErrEnd, 4},
		{"{a_0", api.ErrEnd, 4},
		{"{}", api.ErrPattern, 1},
		{"{{", api.ErrPattern, 1},
		{"{ a}", api.ErrPattern, 1},
		{"{a }", api.ErrPattern, 2},
		{"{a b}", api.ErrPattern, 2},
		{"{0}", api.ErrPattern, 1},
		{"{_}", api.ErrPattern, 1},
		{"{A}", api.ErrPattern, 1},
		{"{aA}", api.ErrPattern, 2},
		{"{a-b}", api.ErrPattern, 2},
		{"{a{", api.ErrPattern, 2},
		{"{a#}", api.ErrPattern, 2},
		{"{a'}", api.ErrPattern, 2},
		{"{'a'}", api.ErrPattern, 1},
		{"{''}", api.ErrPattern, 1},
		{"{#}", api.ErrPattern, 1},
		{"{=1}", api.ErrPattern, 1},
		{"{,", api.ErrPattern, 1},
		{"{, plural, other {}}", api.ErrPattern, 1},
		{"{a\x00}", api.ErrPattern, 2},
		{"{\xff}", api.ErrPattern, 1},
		{"{ä}", api.ErrPattern, 1},
		{"{" + a32, api.ErrEnd, 33},
		{"{" + a32 + "c", api.ErrPattern, 33},
		{"{" + a32 + "_}", api.ErrPattern, 33},
		{"{" + a32 + "0, plural, other {}}", api.ErrPattern, 33},
		{"{" + a32 + a32, api.ErrPattern, 33},
		{"{" + a32 + " ", api.ErrPattern, 33},

		// what follows the first comma
		{"{a,", api.ErrEnd, 3},
		{"{a, ", api.ErrEnd, 4},
		{"{a, p", api.ErrEnd, 5},
		{"{a, s", api.ErrEnd, 5},
		{"{a, plura", api.ErrEnd, 9},
		{"{a, selec", api.ErrEnd, 9},
		{"{a, plural", api.ErrEnd, 10},
		{"{a, select", api.ErrEnd, 10},
		{"{a, plural,", api.ErrEnd, 11},
		{"{a, select,", api.ErrEnd, 11},
		{"{a,}", api.ErrPattern, 3},
		{"{a,,", api.ErrPattern, 3},
		{"{a,plural, other {}}", api.ErrPattern, 3},
		{"{a,select, other {}}", api.ErrPattern, 3},
		{"{a,  plural, other {}}", api.ErrPattern, 4},
		{"{a,  select, other {}}", api.ErrPattern, 4},
		{"{a,\tplural, other {}}", api.ErrPattern, 3},
		{"{a , plural, other {}}", api.ErrPattern, 2},
		{"{a, }", api.ErrPattern, 4},
		{"{a, ,", api.ErrPattern, 4},
		{"{a, x", api.ErrPattern, 4},
		{"{a, number}", api.ErrPattern, 4},
		{"{a, other {}}", api.ErrPattern, 4},
		{"{a, Plural, other {}}", api.ErrPattern, 4},
		{"{a, SELECT, other {}}", api.ErrPattern, 4},
		{"{a, pelect, other {}}", api.ErrPattern, 5},
		{"{a, slural, other {}}", api.ErrPattern, 5},
		{"{a, selectordinal, other {}}", api.ErrPattern, 10},
		{"{a, plurals, other {}}", api.ErrPattern, 10},
		{"{a, plural}", api.ErrPattern, 10},
		{"{a, select}", api.ErrPattern, 10},
		{"{a, plural , other {}}", api.ErrPattern, 10},
		{"{a, plural other {}}", api.ErrPattern, 10},

		// no case
		{"{a, plural,}", api.ErrPattern, 11},
		{"{a, select,}", api.ErrPattern, 11},
		{"{a, plural, }", api.ErrPattern, 12},
		{"{a, select, }", api.ErrPattern, 12},
		{"{a, plural,,", api.ErrPattern, 11},
		{"{a, plural,other {}}", api.ErrPattern, 11},
		{"{a, select,{}}", api.ErrPattern, 11},
		{"{a, plural, {}}", api.ErrPattern, 12},
		{"{a, select, {}}", api.ErrPattern, 12},
	})
}

// TestParseErrorsOfCases: P9.3 for keys, and for what stands around branches.
func TestParseErrorsOfCases(t *testing.T) {
	checkErrors(t, []err{
		// too early an end
		{"{a, plural, ", api.ErrEnd, 12},
		{"{a, plural, o", api.ErrEnd, 13},
		{"{a, plural, other", api.ErrEnd, 17},
		{"{a, plural, other ", api.ErrEnd, 18},
		{"{a, plural, other {", api.ErrEnd, 19},
		{"{a, plural, other {x", api.ErrEnd, 20},
		{"{a, plural, other {#", api.ErrEnd, 20},
		{"{a, plural, other {'", api.ErrEnd, 20},
		{"{a, plural, other {{b}", api.ErrEnd, 22},
		{"{a, plural, other {}", api.ErrEnd, 20},
		{"{a, plural, other {} ", api.ErrEnd, 21},
		{"{a, plural, other {} =", api.ErrEnd, 22},
		{"{a, plural, other {} =0", api.ErrEnd, 23},
		{"{a, plural, other {} =0 ", api.ErrEnd, 24},
		{"{a, plural, =", api.ErrEnd, 13},
		{"{a, plural, =1", api.ErrEnd, 14},
		{"{a, plural, =1000000", api.ErrEnd, 20},
		{"{a, select, " + a32, api.ErrEnd, 44},

		// one blank more or less, and other bytes around a key and a branch
		{"{a, plural,  other {}}", api.ErrPattern, 12},
		{"{a, plural, other{}}", api.ErrPattern, 17},
		{"{a, plural, other  {}}", api.ErrPattern, 18},
		{"{a, plural, other {} }", api.ErrPattern, 21},
		{"{a, plural, other {}  one {}}", api.ErrPattern, 21},
		{"{a, plural, one {}other {}}", api.ErrPattern, 18},
		{"{a, plural, one {}, other {}}", api.ErrPattern, 18},
		{"{a, plural, one {}\tother {}}", api.ErrPattern, 18},
		{"{a, plural, one {}\nother {}}", api.ErrPattern, 18},
		{"{a, plural, one {}{}}", api.ErrPattern, 18},
		{"{a, plural, one {}#", api.ErrPattern, 18},
		{"{a, plural, one {}'", api.ErrPattern, 18},
		{"{a, plural, other\t{}}", api.ErrPattern, 17},
		{"{a, plural, other, {}}", api.ErrPattern, 17},
		{"{a, plural, other }", api.ErrPattern, 18},
		{"{a, plural, other x}", api.ErrPattern, 18},
		{"{a, plural, other}", api.ErrPattern, 17},
		{"{a, plural, other #", api.ErrPattern, 18},
		{"{a, plural, other '{'}", api.ErrPattern, 18},
		{"{a, plural, other other {}}", api.ErrPattern, 18},

		// keys
		{"{a, plural, Other {}}", api.ErrPattern, 12},
		{"{a, plural, otheR {}}", api.ErrPattern, 16},
		{"{a, plural, _ {}}", api.ErrPattern, 12},
		{"{a, plural, 1 {}}", api.ErrPattern, 12},
		{"{a, plural, # {}}", api.ErrPattern, 12},
		{"{a, plural, 'a' {}}", api.ErrPattern, 12},
		{"{a, select, a-b {}}", api.ErrPattern, 13},
		{"{a, select, \xff {}}", api.ErrPattern, 12},
		{"{a, select, " + a32 + "c {}}", api.ErrPattern, 44},
		{"{a, select, " + a32 + "0", api.ErrPattern, 44},
		{"{a, plural, " + a32 + "_", api.ErrPattern, 44},
		{"{a, plural, = {}}", api.ErrPattern, 13},
		{"{a, select, = {}}", api.ErrPattern, 13},
		{"{a, plural, =a {}}", api.ErrPattern, 13},
		{"{a, plural, =one {}}", api.ErrPattern, 13},
		{"{a, plural, =-1 {}}", api.ErrPattern, 13},
		{"{a, plural, =+1 {}}", api.ErrPattern, 13},
		{"{a, plural, == {}}", api.ErrPattern, 13},
		{"{a, plural, =_ {}}", api.ErrPattern, 13},
		{"{a, plural, ={}}", api.ErrPattern, 13},
		{"{a, plural, =}", api.ErrPattern, 13},
		{"{a, plural, =1{}}", api.ErrPattern, 14},
		{"{a, plural, =1a {}}", api.ErrPattern, 14},
		{"{a, plural, =1_0 {}}", api.ErrPattern, 14},
		{"{a, plural, =1= {}}", api.ErrPattern, 14},
		{"{a, plural, =1.0 {}}", api.ErrPattern, 14},
		{"{a, plural, =1  {}}", api.ErrPattern, 15},
		{"{a, plural, =00 {}}", api.ErrPattern, 14},
		{"{a, plural, =01 {}}", api.ErrPattern, 14},
		{"{a, plural, =09", api.ErrPattern, 14},
		{"{a, select, =00 {}}", api.ErrPattern, 14},
		{"{a, select, =01 {}}", api.ErrPattern, 14},
		{"{a, plural, =0x1 {}}", api.ErrPattern, 14},
		{"{a, plural, =1000001 {}}", api.ErrPattern, 19},
		{"{a, plural, =1000009", api.ErrPattern, 19},
		{"{a, plural, =1000010 {}}", api.ErrPattern, 19},
		{"{a, plural, =2000000 {}}", api.ErrPattern, 19},
		{"{a, plural, =9999999 {}}", api.ErrPattern, 19},
		{"{a, plural, =10000000 {}}", api.ErrPattern, 20},
		{"{a, plural, =1000000a {}}", api.ErrPattern, 20},
		{"{a, plural, =99999999999999999999 {}}", api.ErrPattern, 19},
		{"{a, select, =1000001 {}}", api.ErrPattern, 19},
		{"{a, plural, other {} =1000001 {}}", api.ErrPattern, 28},
	})
}

// TestParseTrees: P9.3 for texts that can be read and are no pattern's, and for errors of the text that come ahead of that.
func TestParseTrees(t *testing.T) {
	checkErrors(t, []err{
		{"{n, plural, one {}}", api.ErrTree, 0},
		{"{n, select, =1 {} other {}}", api.ErrTree, 0},
		{"{n, select, one {}}", api.ErrTree, 0},
		{"{n, select, =0 {}}", api.ErrTree, 0},
		{"{n, select, other {} =1000000 {} other {}}", api.ErrTree, 0},
		{"{n, plural, other {} one {}}", api.ErrTree, 0},
		{"{n, plural, other {} other {}}", api.ErrTree, 0},
		{"{n, plural, one {} one {} other {}}", api.ErrTree, 0},
		{"{n, plural, =1 {} =1 {} other {}}", api.ErrTree, 0},
		{"{n, plural, =1 {} one {} =1 {} other {}}", api.ErrTree, 0},
		{"{n, select, a {} b {} a {} other {}}", api.ErrTree, 0},
		{"{n, plural, three {} other {}}", api.ErrTree, 0},
		{"{n, plural, on {} other {}}", api.ErrTree, 0},
		{"{n, plural, a {} other {}}", api.ErrTree, 0},
		{"{n, plural, " + a32 + " {} other {}}", api.ErrTree, 0},
		{"{n, plural, others {}}", api.ErrTree, 0},
		{"a{n, plural, other {b{m, plural, one {}}}}", api.ErrTree, 0},
		{"a{n, plural, =1 {b{m, select, =1 {} other {}}} other {}}c", api.ErrTree, 0},
		{"{n, plural, one {}}{n, plural, other {}}", api.ErrTree, 0},

		{"{n, plural, one {}}'x", api.ErrPattern, 20},
		{"{n, plural, one {}}#", api.ErrPattern, 19},
		{"{n, plural, one {}}}", api.ErrPattern, 19},
		{"{n, plural, one {}}'", api.ErrEnd, 20},
		{"{n, plural, one {} one {}", api.ErrEnd, 25},
		{"{n, select, =1 {} other {}", api.ErrEnd, 26},
		{"{n, plural, three {'a", api.ErrPattern, 20},
		{"{n, plural, three {", api.ErrEnd, 19},
	})
}

// TestParseNumbers: P9.3 for every key of up to three digits, and those around the greatest.
func TestParseNumbers(t *testing.T) {
	numbers := []string{""}
	for n := range 1000 {
		numbers = append(numbers, strconv.Itoa(n), "0"+strconv.Itoa(n))
	}
	for n := range 25 {
		for _, near := range []int{99990, 999990, 9999990, 10000000, 99999990} {
			numbers = append(numbers, strconv.Itoa(near+n), "0"+strconv.Itoa(near+n))
		}
	}
	for _, n := range numbers {
		for _, s := range []string{"{n, plural, =# {a} other {}}", "{n, plural, one {} =# {} other {#}}", "{n, select, =# {}}", "{n, plural, =#"} {
			checkParseDefined(t, "number", strings.Replace(s, "=#", "="+n, 1))
		}
	}
}

// TestParseNames: P9.3 for names and keys of every length.
func TestParseNames(t *testing.T) {
	for n := range 70 {
		for _, c := range []string{"a", "a0", "a_9z"} {
			name := strings.Repeat(c, n+1)[:n]
			for _, s := range []string{"{@}", "x{@}y", "{@, plural, other {}}", "{@, select, other {}}", "{n, select, @ {@} other {{@}}}", "{n, plural, @ {} other {}}", "{@", "{n, select, @", "{n, select, =@ {} other {}}"} {
				checkParseDefined(t, "name", strings.ReplaceAll(s, "@", name))
			}
		}
	}
	checkParse(t, "32 bytes", "{"+a32+"}", parts(arg(a32)), api.OK, 0)
	checkParse(t, "32 bytes", "{"+a32+", select, "+a32+" {{"+a32+"}} other {}}", parts(choose(a32, when(a32, arg(a32)), when("other"))), api.OK, 0)
}

// TestParseDeep: P9.3 for branches inside one another, with every text behind the last of them.
func TestParseDeep(t *testing.T) {
	const pick, count, closed = "{a, select, other {", "{a, plural, =1 {} other {", "}}"
	for _, open := range []string{pick, count} {
		for branches := 30; branches <= 40; branches++ {
			s := strings.Repeat(open, branches) + strings.Repeat(closed, branches)
			if branches <= 32 {
				want, _, _ := slowParse(s)
				checkParse(t, "deep", s, want, api.OK, 0)
				continue
			}
			checkParse(t, "too deep", s, nil, api.ErrDeep, 32*len(open)+strings.Index(open, " {")+1)
		}
	}
}

// TestParseDeepOffsets: P9.3 for the `{` that begins the 33rd branch, whatever stands around.
func TestParseDeepOffsets(t *testing.T) {
	const open = "{a, select, other {"
	deep := strings.Repeat(open, 32)
	closed := strings.Repeat("}}", 32)
	at := len(deep)
	for _, x := range []struct {
		behind string
		want   api.Errno
		at     int
	}{
		{"", api.ErrEnd, at},
		{"x", api.ErrEnd, at + 1},
		{closed, api.OK, 0},
		{"{b}" + closed, api.OK, 0},
		{"'{'" + closed, api.OK, 0},
		{"#", api.ErrPattern, at},
		{"{", api.ErrEnd, at + 1},
		{"{b", api.ErrEnd, at + 2},
		{"{b, select", api.ErrEnd, at + 10},
		{"{b, select, other", api.ErrEnd, at + 17},
		{"{b, select, other ", api.ErrEnd, at + 18},
		{"{b, select, other x", api.ErrPattern, at + 18},
		{"{b, selecT, other {", api.ErrPattern, at + 9},
		{"{b, select, Other {", api.ErrPattern, at + 12},
		{"{b, select, other{", api.ErrPattern, at + 17},
		{"{b, select, other {", api.ErrDeep, at + 18},
		{"{b, select, other {}}" + closed, api.ErrDeep, at + 18},
		{"{b, select, other {#", api.ErrDeep, at + 18},
		{"{b, select, other {'x", api.ErrDeep, at + 18},
		{"{b, select, o {", api.ErrDeep, at + 14},
		{"{b, plural, =0 {", api.ErrDeep, at + 15},
		{"{b, select, =1 {", api.ErrDeep, at + 15},
		{"x{c}{b, plural, few {#}}", api.ErrDeep, at + 20},
		{"}}{b, select, other {}}" + closed[2:], api.OK, 0},
		{"} x {}}" + closed[2:], api.ErrTree, 0},
		{"} x {{b, select, other {", api.ErrDeep, at + 23},
		{closed + deep + closed, api.OK, 0},
		{closed + deep + "{b, select, other {", api.ErrDeep, 2*at + len(closed) + 18},
		{closed + deep + "{b, select, o", api.ErrEnd, 2*at + len(closed) + 13},
	} {
		s := deep + x.behind
		want, _, _ := slowParse(s)
		checkParse(t, "deep "+x.behind, s, want, x.want, x.at)
		checkParseDefined(t, "deep "+x.behind, s)
	}
	checkParse(t, "an error ahead", "#"+deep+open, nil, api.ErrPattern, 0)
	checkParse(t, "an error in the 32nd branch", deep+"'x"+open, nil, api.ErrPattern, at+1)
	checkParse(t, "wrong keys ahead", "{n, plural, one {}}"+deep+open, nil, api.ErrDeep, at+19+18)
}

// TestParseNodes: P9.3 for texts of as many parts as may be, and of more.
func TestParseNodes(t *testing.T) {
	for count := 997; count <= 1003; count++ {
		for _, x := range []struct{ name, s string }{
			{"hashes", "{n, plural, other {" + strings.Repeat("#", count-1) + "}}"},
			{"hashes and texts", "{n, plural, other {" + strings.Repeat("#a", (count-1)/2) + "{x}{x}"[:(count-1)%2*3] + "}}"},
			{"hashes in two branches", "{n, plural, one {" + strings.Repeat("#", 400) + "} other {" + strings.Repeat("#", count-401) + "}}"},
			{"hashes and parts behind", "{n, plural, other {" + strings.Repeat("#", count-3) + "}}a{b}"},
			{"hashes in branches of a select", "{n, plural, other {{s, select, other {" + strings.Repeat("#", count-2) + "}}}}"},
		} {
			name := strconv.Itoa(count) + " " + x.name
			if want, e, at := slowParse(x.s); count <= 1000 && e != api.OK || count > 1000 && e != api.ErrLong {
				t.Errorf("%s: the test's own text answers %d", name, e)
			} else {
				checkParse(t, name, x.s, want, e, at)
			}
			checkParse(t, name+" and a byte more", x.s+"#", nil, api.ErrPattern, len(x.s))
			checkParse(t, name+" and too early an end", x.s+"{", nil, api.ErrEnd, len(x.s)+1)
			wrong := strings.Replace(x.s, "other {", "x {", 1)
			want := api.ErrTree
			if count > 1000 {
				want = api.ErrLong
			}
			checkParse(t, name+" and a wrong key", wrong, nil, want, 0)
		}
	}
}

// TestParseLong: P9.3 for texts around MaxPattern bytes, whatever they are.
func TestParseLong(t *testing.T) {
	args := strings.Repeat("{abcdefgh}", 400)
	for _, n := range []int{1, 1998, 1999, 2000, 2001, 2002, 4000} {
		for _, s := range []string{strings.Repeat("x", n), strings.Repeat("\xff", n), strings.Repeat("'", n), strings.Repeat("#", n), strings.Repeat("{", n), strings.Repeat("}", n), strings.Repeat("a", n-1) + "'", strings.Repeat("a", n-1) + "#", args[:n], args[1:n]} {
			checkParseDefined(t, "long", s)
			if n > 2000 && len(s) > 2000 {
				checkParse(t, "long", s, nil, api.ErrLong, 0)
			}
		}
	}
	checkParse(t, "2000 bytes", strings.Repeat("x", 2000), parts(text(strings.Repeat("x", 2000))), api.OK, 0)
	checkParse(t, "2000 apostrophes", strings.Repeat("'", 2000), parts(text(strings.Repeat("'", 1000))), api.OK, 0)
	checkParse(t, "1999 apostrophes", strings.Repeat("'", 1999), nil, api.ErrEnd, 1999)
	checkParse(t, "2000 bytes that end too early", args[:1991]+"{abcdefgh", nil, api.ErrPattern, 1991)
	checkParse(t, "2000 bytes that end with an open name", args[:1990]+"{abcdefghi", nil, api.ErrEnd, 2000)
	checkParse(t, "2000 bytes, the last one wrong", args[:1990]+"{abcdefgh ", nil, api.ErrPattern, 1999)
	checkParse(t, "2001 bytes, the first one wrong", "#"+args[:2000], nil, api.ErrLong, 0)
	checkParse(t, "2001 bytes that end too early", args[:2000]+"{", nil, api.ErrLong, 0)
	checkParse(t, "2^20 bytes", strings.Repeat("{", 1<<20), nil, api.ErrLong, 0)
}

// TestParseNearly: P9.3 for each text that differs from a pattern's in one byte, has one more or one less, or is cut off.
func TestParseNearly(t *testing.T) {
	const letters = "'{}#, =0a_A\x00\xff"
	for _, s := range texts {
		for i := range len(s) + 1 {
			checkParseDefined(t, "cut off", s[:i])
			for j := range len(letters) {
				c := letters[j : j+1]
				checkParseDefined(t, "one more", s[:i]+c+s[i:])
				checkParseDefined(t, "the last", s[:i]+c)
				if i < len(s) {
					checkParseDefined(t, "another", s[:i]+c+s[i+1:])
				}
			}
			if i < len(s) {
				checkParseDefined(t, "one less", s[:i]+s[i+1:])
			}
		}
	}
}

// TestParseEveryByte: P9.3 for every byte at each place of a text: if it cannot stand there, the error is there, whatever follows.
func TestParseEveryByte(t *testing.T) {
	const s = "a{n, plural, =10 {b#''{s, select, x_1 {'{'#} other {{c}}}} other {}}d''"
	for i := range len(s) + 1 {
		for c := range 256 {
			next := s[:i] + string([]byte{byte(c)})
			_, e, at := slowParse(next)
			if e != api.ErrPattern {
				checkParseDefined(t, "may stand", next)
				continue
			}
			if at != i {
				t.Fatalf("the test's own text goes wrong at %d, not %d", at, i)
			}
			for _, rest := range []string{"", s[i:], "'", "{", "}", "\x00"} {
				checkParse(t, "cannot stand", next+rest, nil, api.ErrPattern, i)
			}
		}
	}
}

// TestParseAnswersNewMemory: no two lists of answers share memory, and what a call answers is not touched by who writes into the answer of another one.
func TestParseAnswersNewMemory(t *testing.T) {
	partAt := map[*api.Part]int{}
	caseAt := map[*api.Case]int{}
	var look func(l []api.Part)
	look = func(l []api.Part) {
		room := l[:cap(l)]
		for i := range room {
			partAt[&room[i]]++
		}
		for _, part := range l {
			cases := part.Cases[:cap(part.Cases)]
			for i := range cases {
				caseAt[&cases[i]]++
			}
			for _, c := range part.Cases {
				look(c.Kids)
			}
		}
	}
	for _, s := range append(texts, "{n, select, a {x} b {x} other {x}}{n, select, a {x} b {x} other {x}}", "{a}b{c}d{e}") {
		want, _, _ := slowParse(s)
		first, _, _ := pattern.Parse(s)
		second, _, _ := pattern.Parse(s)
		look(first)
		look(second)
		overwrite(first)
		if !same(second, want) {
			t.Errorf("Parse of %s answers lists that share memory with those of another call", brief(s))
		}
		checkParse(t, "again", s, want, api.OK, 0)
	}
	for _, times := range partAt {
		if times > 1 {
			t.Fatal("Parse answers lists of parts that share memory")
		}
	}
	for _, times := range caseAt {
		if times > 1 {
			t.Fatal("Parse answers lists of cases that share memory")
		}
	}
}

// overwrite writes over all of a list, and over what is inside.
func overwrite(l []api.Part) {
	for i := range l {
		for j := range l[i].Cases {
			overwrite(l[i].Cases[j].Kids)
			l[i].Cases[j] = when("overwritten")
		}
		l[i] = text("overwritten")
	}
}
