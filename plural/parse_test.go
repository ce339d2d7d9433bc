package plural_test

import (
	"strconv"
	"strings"
	"testing"

	"hornbook/api"
	"hornbook/plural"
)

// texts are those of rules, with all that a text can have between them.
var texts = []string{
	"i = 1",
	"i != 0",
	"i % 10 = 0,5..9 or i % 100 = 11..14",
	"i % 2 != 3..4,1000000 and i = 0 or i != 1",
	"i = 999999..1000000",
	"i % 1000000 = 0",
	"i = 1 and i = 2 and i != 3",
	"i = 1 or i = 2 or i = 3",
}

// TestParseErrors: P8.2 for texts of which each has an error that is written out here.
func TestParseErrors(t *testing.T) {
	for _, x := range []struct {
		s    string
		want api.Errno
		at   int
	}{
		// the chapter's examples
		{"i = 01", api.ErrRule, 5},
		{"i % 1 = 0", api.ErrArg, 0},
		{"i = 3..2", api.ErrArg, 0},
		{"j", api.ErrRule, 0},
		{"i =", api.ErrEnd, 3},

		// a byte that cannot stand there
		{" i = 1", api.ErrRule, 0},
		{"i= 1", api.ErrRule, 1},
		{"i  = 1", api.ErrRule, 2},
		{"i =1", api.ErrRule, 3},
		{"i =  1", api.ErrRule, 4},
		{"i = 1 ", api.ErrEnd, 6},
		{"i = 1  ", api.ErrRule, 6},
		{"i = 1\n", api.ErrRule, 5},
		{"i = 1\x00", api.ErrRule, 5},
		{"\x00", api.ErrRule, 0},
		{"i = \x00", api.ErrRule, 4},
		{"i = 1..\x00", api.ErrRule, 7},
		{"i % \x00", api.ErrRule, 4},
		{"i\t= 1", api.ErrRule, 1},
		{"I = 1", api.ErrRule, 0},
		{"n = 1", api.ErrRule, 0},
		{"i ! = 1", api.ErrRule, 3},
		{"i !1", api.ErrRule, 3},
		{"i == 1", api.ErrRule, 3},
		{"i <> 1", api.ErrRule, 2},
		{"i !=1", api.ErrRule, 4},
		{"i %10 = 1", api.ErrRule, 3},
		{"i%10 = 1", api.ErrRule, 1},
		{"i %  10 = 1", api.ErrRule, 4},
		{"i % 10= 1", api.ErrRule, 6},
		{"i % 10  = 1", api.ErrRule, 7},
		{"i % 10,20 = 1", api.ErrRule, 6},
		{"i % 10..20 = 1", api.ErrRule, 6},
		{"i % 10 % 5 = 1", api.ErrRule, 7},
		{"i % 10 or i = 1", api.ErrRule, 7},
		{"i % = 1", api.ErrRule, 4},
		{"i % -1 = 1", api.ErrRule, 4},
		{"i = -1", api.ErrRule, 4},
		{"i = +1", api.ErrRule, 4},
		{"i = a", api.ErrRule, 4},
		{"i = ,1", api.ErrRule, 4},
		{"i = 1,,2", api.ErrRule, 6},
		{"i = 1, 2", api.ErrRule, 6},
		{"i = 1 ,2", api.ErrRule, 6},
		{"i = 1.2", api.ErrRule, 6},
		{"i = 1...2", api.ErrRule, 7},
		{"i = 1..2..3", api.ErrRule, 8},
		{"i = 1..2.3", api.ErrRule, 8},
		{"i = ..2", api.ErrRule, 4},
		{"i = 1..,2", api.ErrRule, 7},
		{"i = 1.. 2", api.ErrRule, 7},
		{"i = 1 .. 2", api.ErrRule, 6},
		{"i = 1or i = 2", api.ErrRule, 5},
		{"i = 1 ori = 2", api.ErrRule, 8},
		{"i = 1 or  i = 2", api.ErrRule, 9},
		{"i = 1  or i = 2", api.ErrRule, 6},
		{"i = 1 and  i = 2", api.ErrRule, 10},
		{"i = 1 andi = 2", api.ErrRule, 9},
		{"i = 1 xor i = 2", api.ErrRule, 6},
		{"i = 1 an i = 2", api.ErrRule, 8},
		{"i = 1 od i = 2", api.ErrRule, 7},
		{"i = 1 ar i = 2", api.ErrRule, 7},
		{"i = 1 OR i = 2", api.ErrRule, 6},
		{"i = 1 or or i = 2", api.ErrRule, 9},
		{"i = 1 or and i = 2", api.ErrRule, 9},
		{"i = 1 and = 2", api.ErrRule, 10},
		{"or i = 1", api.ErrRule, 0},
		{"i = 1, or i = 2", api.ErrRule, 6},
		{"i = 1i = 2", api.ErrRule, 5},
		{"i = i", api.ErrRule, 4},
		{"i = \xff", api.ErrRule, 4},
		{"i = 1 or i = 2 or j", api.ErrRule, 18},

		// leading zeros
		{"i = 0", api.OK, 0},
		{"i = 00", api.ErrRule, 5},
		{"i = 0x", api.ErrRule, 5},
		{"i = 1,02", api.ErrRule, 7},
		{"i = 1..02", api.ErrRule, 8},
		{"i = 0..02", api.ErrRule, 8},
		{"i = 01..2", api.ErrRule, 5},
		{"i % 010 = 1", api.ErrRule, 5},
		{"i % 00 = 1", api.ErrRule, 5},
		{"i = 10", api.OK, 0},
		{"i = 100", api.OK, 0},
		{"i = 0,0", api.OK, 0},

		// numbers that would be too great
		{"i = 1000000", api.OK, 0},
		{"i = 1000001", api.ErrRule, 10},
		{"i = 1000009", api.ErrRule, 10},
		{"i = 1000010", api.ErrRule, 10},
		{"i = 9999999", api.ErrRule, 10},
		{"i = 2000000", api.ErrRule, 10},
		{"i = 999999", api.OK, 0},
		{"i = 999999x", api.ErrRule, 10},
		{"i = 10000000", api.ErrRule, 11},
		{"i = 10000001", api.ErrRule, 11},
		{"i = 1000000x", api.ErrRule, 11},
		{"i = 100000000000000000000", api.ErrRule, 11},
		{"i = 9223372036854775808", api.ErrRule, 10},
		{"i = 4294967297", api.ErrRule, 10},
		{"i = " + strings.Repeat("9", 396), api.ErrRule, 10},
		{"i = 1..1000000", api.OK, 0},
		{"i = 1..1000001", api.ErrRule, 13},
		{"i = 1..10000000", api.ErrRule, 14},
		{"i = 1000001..1000002", api.ErrRule, 10},
		{"i = 1,1000001", api.ErrRule, 12},
		{"i % 1000000 = 1", api.OK, 0},
		{"i % 1000001 = 1", api.ErrRule, 10},
		{"i % 10000000 = 1", api.ErrRule, 11},
		{"i % 999999 = 1", api.OK, 0},

		// texts that have the form, and are no rule's
		{"i = 3..3", api.ErrArg, 0},
		{"i = 3..4", api.OK, 0},
		{"i = 0..0", api.ErrArg, 0},
		{"i = 0..1", api.OK, 0},
		{"i = 1..0", api.ErrArg, 0},
		{"i = 1000000..1000000", api.ErrArg, 0},
		{"i = 1000000..999999", api.ErrArg, 0},
		{"i = 999999..1000000", api.OK, 0},
		{"i != 3..3", api.ErrArg, 0},
		{"i = 1,3..3,5", api.ErrArg, 0},
		{"i = 1,3..2,5", api.ErrArg, 0},
		{"i = 1 and i = 2..2 or i = 3", api.ErrArg, 0},
		{"i = 1 or i = 3 and i = 5,2..1", api.ErrArg, 0},
		{"i % 0 = 1", api.ErrArg, 0},
		{"i % 0 != 1", api.ErrArg, 0},
		{"i % 1 != 0", api.ErrArg, 0},
		{"i % 2 = 0", api.OK, 0},
		{"i = 1 or i % 0 = 1", api.ErrArg, 0},
		{"i = 1 and i % 1 = 0", api.ErrArg, 0},
		{"i % 0 = 3..3", api.ErrArg, 0},

		// and what would be one of these, were it not for an error of the form
		{"i % 0 = 01", api.ErrRule, 9},
		{"i % 1 = 0x", api.ErrRule, 9},
		{"i % 1 = ", api.ErrEnd, 8},
		{"i % 0", api.ErrEnd, 5},
		{"i % 1", api.ErrEnd, 5},
		{"i = 3..2 ", api.ErrEnd, 9},
		{"i = 3..2x", api.ErrRule, 8},
		{"i = 3..3 or j", api.ErrRule, 12},

		// texts that end too early
		{"", api.ErrEnd, 0},
		{"i", api.ErrEnd, 1},
		{"i ", api.ErrEnd, 2},
		{"i !", api.ErrEnd, 3},
		{"i !=", api.ErrEnd, 4},
		{"i != ", api.ErrEnd, 5},
		{"i %", api.ErrEnd, 3},
		{"i % ", api.ErrEnd, 4},
		{"i % 10", api.ErrEnd, 6},
		{"i % 10 ", api.ErrEnd, 7},
		{"i % 10 =", api.ErrEnd, 8},
		{"i % 10 !", api.ErrEnd, 8},
		{"i = ", api.ErrEnd, 4},
		{"i = 1,", api.ErrEnd, 6},
		{"i = 1.", api.ErrEnd, 6},
		{"i = 1..", api.ErrEnd, 7},
		{"i = 1..2,", api.ErrEnd, 9},
		{"i = 1 o", api.ErrEnd, 7},
		{"i = 1 or", api.ErrEnd, 8},
		{"i = 1 or ", api.ErrEnd, 9},
		{"i = 1 or i", api.ErrEnd, 10},
		{"i = 1 a", api.ErrEnd, 7},
		{"i = 1 an", api.ErrEnd, 8},
		{"i = 1 and", api.ErrEnd, 9},
		{"i = 1 and ", api.ErrEnd, 10},
		{"i = 1 and i", api.ErrEnd, 11},
	} {
		want, _, _ := slowParse(x.s)
		checkParse(t, "written out", x.s, want, x.want, x.at)
		checkParseDefined(t, "written out", x.s)
	}
}

// TestParseCounts: P8.2 for texts of as many rows, relations and spans as may be, and of more.
func TestParseCounts(t *testing.T) {
	for _, n := range []int{1, 2, 9, 10, 11, 12, 43} {
		want := api.ErrArg
		if n <= 10 {
			want = api.OK
		}
		for _, x := range []struct{ name, s string }{
			{"rows", "i = 1" + strings.Repeat(" or i = 2", n-1)},
			{"relations", "i = 1" + strings.Repeat(" and i = 2", min(n, 39)-1)},
			{"spans", "i = 1" + strings.Repeat(",2", n-1)},
			{"spans with ..", "i = 1..2" + strings.Repeat(",2..3", n-1)},
			{"relations of the last row", "i = 1 or i = 1" + strings.Repeat(" and i = 2", min(n, 38)-1)},
			{"spans of the last relation", "i = 1 and i = 3 or i = 1" + strings.Repeat(",2", n-1)},
		} {
			name := strconv.Itoa(n) + " " + x.name
			rule, _ := taken(x.s)
			if want != api.OK {
				rule = nil
			}
			checkParse(t, name, x.s, rule, want, 0)
			checkParseDefined(t, name, x.s)
			checkParse(t, name+" and a byte more", x.s+"x", nil, api.ErrRule, len(x.s))
			checkParse(t, name+" and too early an end", x.s+" or", nil, api.ErrEnd, len(x.s)+3)
		}
	}
}

// TestParseLong: P8.2 for texts around MaxRule bytes, whatever they are.
func TestParseLong(t *testing.T) {
	rows := strings.Repeat("i = 1 or ", 100)
	spans := "i = " + strings.Repeat("1,", 400)
	for _, n := range []int{1, 398, 399, 400, 401, 402, 800} {
		for _, s := range []string{strings.Repeat("x", n), strings.Repeat(" ", n), rows[:n], spans[:min(n, len(spans))]} {
			checkParseDefined(t, "long", s)
			if n > 400 {
				checkParse(t, "long", s, nil, api.ErrLong, 0)
			}
		}
	}
	checkParse(t, "400 bytes that end too early", rows[:400], nil, api.ErrEnd, 400)
	checkParse(t, "400 bytes of too many spans", spans[:399]+"2", nil, api.ErrArg, 0)
	checkParse(t, "400 bytes that end with a comma", spans[:400], nil, api.ErrEnd, 400)
	checkParse(t, "399 bytes of too many spans", spans[:399], nil, api.ErrArg, 0)
	checkParse(t, "400 bytes of too many rows", rows[:383]+" or i = 123456,78", nil, api.ErrArg, 0)
	checkParse(t, "400 bytes, the last one wrong", rows[:399]+"x", nil, api.ErrRule, 399)
	checkParse(t, "400 bytes, the first one wrong", "x"+rows[:399], nil, api.ErrRule, 0)
	checkParse(t, "2^20 bytes", strings.Repeat("i", 1<<20), nil, api.ErrLong, 0)
}

// TestParseNearly: P8.2 for each text that differs from a rule's in one byte, has one more or one less, or is cut off.
func TestParseNearly(t *testing.T) {
	const letters = " iorand%=!.,0129\x00\xff"
	for _, s := range texts {
		for i := range len(s) + 1 {
			checkParseDefined(t, "cut off", s[:i])
			for j := range len(letters) {
				c := letters[j : j+1]
				checkParseDefined(t, "one more", s[:i]+c+s[i:])
				checkParseDefined(t, "the last", s[:i]+c)
				if i < len(s) {
					checkParseDefined(t, "another", s[:i]+c+s[i+1:])
				}
			}
			if i < len(s) {
				checkParseDefined(t, "one less", s[:i]+s[i+1:])
			}
		}
	}
}

// TestParseEveryByte: P8.2 for every byte at each place of a text: if it cannot stand there, the error is there.
func TestParseEveryByte(t *testing.T) {
	const s = "i % 10 = 0,5..9 and i != 3 or i = 12"
	for i := range len(s) + 1 {
		for c := range 256 {
			next := s[:i] + string([]byte{byte(c)})
			if begins(next) {
				checkParseDefined(t, "may stand", next)
				continue
			}
			for _, rest := range []string{"", s[i:], "i", "\x00"} {
				checkParse(t, "cannot stand", next+rest, nil, api.ErrRule, i)
			}
		}
	}
}

// TestParseNumbers: P8.2 for every text of a number of up to two digits, and those around the greatest, at each place where a number stands.
func TestParseNumbers(t *testing.T) {
	numbers := []string{""}
	for n := range 10 {
		numbers = append(numbers, strconv.Itoa(n))
		for m := range 10 {
			numbers = append(numbers, strconv.Itoa(n)+strconv.Itoa(m))
		}
	}
	for n := range 25 {
		for _, near := range []int{99990, 999990, 9999990, 10000000, 99999990} {
			numbers = append(numbers, strconv.Itoa(near+n), "0"+strconv.Itoa(near+n))
		}
	}
	for _, n := range numbers {
		for _, s := range []string{"i = #", "i = #,5", "i = #..5", "i = 5..#", "i = 5,#", "i != 5,#..7,8", "i % # = 5", "i % # != 5 or i = 3", "i = 5 and i % 7 = #", "i = #..#"} {
			checkParseDefined(t, "number", strings.ReplaceAll(s, "#", n))
		}
	}
}

// TestParseAnswersNewMemory: what a call answers is not touched by who writes into the answer of another one.
func TestParseAnswersNewMemory(t *testing.T) {
	for _, s := range texts {
		want, _ := taken(s)
		first, _, _ := plural.Parse(s)
		for i := range first {
			for j := range first[i] {
				spans := first[i][j].Spans
				for k := range spans[:cap(spans)] {
					spans[:cap(spans)][k] = from(-9, -9)
				}
				first[i][j] = relation(-9, spans...)
				if !sameBehind(first, want, i, j) {
					t.Errorf("Parse of %s answers lists that share memory", brief(s))
				}
			}
			first[i] = nil
		}
		checkParse(t, "again", s, want, api.OK, 0)
	}
}

// sameBehind tells whether the relations behind one of them are the same in two rules.
func sameBehind(a, b [][]api.Rel, i, j int) bool {
	return same(a[i+1:], b[i+1:]) && same(rule(a[i][j+1:]), rule(b[i][j+1:]))
}
