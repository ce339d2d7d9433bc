package plural_test

import (
	"math"
	"slices"
	"strconv"
	"testing"

	"hornbook/api"
	"hornbook/plural"
)

// counts are the numbers of rows, relations or spans that are tried, and whether there may be so many.
var counts = []struct {
	n    int
	want bool
}{{0, false}, {1, true}, {2, true}, {9, true}, {10, true}, {11, false}, {12, false}, {1000, false}}

// TestNumberOfParts: P8.1 and P8.3 for as many rows, relations and spans as may be, and more, and fewer.
func TestNumberOfParts(t *testing.T) {
	rel := relation(0, from(0, 1000000))
	for _, x := range counts {
		name := strconv.Itoa(x.n)
		for _, y := range []struct {
			name string
			rule [][]api.Rel
		}{
			{name + " rows", slices.Repeat(rule(row(rel)), x.n)},
			{name + " relations", rule(slices.Repeat(row(rel), x.n))},
			{name + " spans", rule(row(relation(0, slices.Repeat([]api.Span{from(0, 1000000)}, x.n)...)))},
			{name + " relations in the last row", rule(row(rel), row(rel, rel), slices.Repeat(row(rel), x.n))},
			{name + " spans in the last relation", rule(row(rel), row(rel, relation(2, slices.Repeat([]api.Span{from(0, 1)}, x.n)...)))},
			{name + " relations in the first row", rule(slices.Repeat(row(rel), x.n), row(rel))},
			{name + " spans in the first relation", rule(row(relation(2, slices.Repeat([]api.Span{from(0, 1)}, x.n)...), rel), row(rel))},
		} {
			checkRight(t, y.name, y.rule, x.want)
			checkHolds(t, y.name, y.rule, 5, x.want)
			if !x.want {
				checkPrint(t, y.name, y.rule, "", api.ErrArg)
			}
			checkDefined(t, y.name, y.rule)
		}
	}
	full := slices.Repeat(rule(slices.Repeat(row(relation(2, slices.Repeat([]api.Span{only(1)}, 10)...)), 10)), 10)
	checkRight(t, "10 of all", full, true)
	checkPrint(t, "10 of all", full, "", api.ErrLong)
	checkHolds(t, "10 of all", full, 3, true)
	checkHolds(t, "10 of all", full, 4, false)
}

// TestNilAndEmpty: P8.1 and P8.3 where there are no rows, relations or spans.
func TestNilAndEmpty(t *testing.T) {
	rel := relation(0, from(0, 1000000))
	for _, x := range []struct {
		name string
		rule [][]api.Rel
	}{
		{"nil", nil},
		{"empty", [][]api.Rel{}},
		{"a nil row", rule(nil)},
		{"an empty row", rule(row())},
		{"an empty row that is not nil", rule([]api.Rel{})},
		{"a nil row behind another", rule(row(rel), nil)},
		{"a nil row ahead of another", rule(nil, row(rel))},
		{"an empty row behind another", rule(row(rel), []api.Rel{})},
		{"nil spans", rule(row(api.Rel{}))},
		{"nil spans and Not", rule(row(api.Rel{Not: true}))},
		{"nil spans and a Mod", rule(row(api.Rel{Mod: 10}))},
		{"empty spans", rule(row(api.Rel{Spans: []api.Span{}}))},
		{"empty spans and Not", rule(row(api.Rel{Not: true, Spans: []api.Span{}}))},
		{"nil spans behind others", rule(row(rel, api.Rel{}))},
		{"nil spans ahead of others", rule(row(api.Rel{}, rel))},
		{"nil spans in another row", rule(row(rel), row(api.Rel{Not: true}))},
	} {
		checkRight(t, x.name, x.rule, false)
		checkPrint(t, x.name, x.rule, "", api.ErrArg)
		for _, n := range numbers {
			checkHolds(t, x.name, x.rule, n, false)
		}
	}
}

// TestMods: P8.1 for relations with every Mod at the edges, set Not or not.
func TestMods(t *testing.T) {
	for _, x := range []struct {
		mod  int
		want bool
	}{
		{-1, false}, {0, true}, {1, false}, {2, true}, {3, true}, {10, true}, {999999, true}, {1000000, true}, {1000001, false},
		{-2, false}, {-10, false}, {math.MaxInt, false}, {math.MinInt, false}, {math.MinInt32, false}, {1 << 31, false},
	} {
		name := "Mod " + strconv.Itoa(x.mod)
		for _, r := range [][][]api.Rel{
			rule(row(relation(x.mod, from(0, 1)))),
			rule(row(relationNot(x.mod, from(0, 1)))),
			rule(row(relation(0, only(1))), row(relation(2, only(0)), relation(x.mod, only(7)))),
			rule(row(relation(x.mod, only(7)), relation(2, only(0))), row(relation(0, only(1)))),
		} {
			checkRight(t, name, r, x.want)
			if !x.want {
				checkPrint(t, name, r, "", api.ErrArg)
				checkHolds(t, name, r, 1, false)
			}
			checkDefined(t, name, r)
		}
	}
}

// TestSpans: P8.1 and P8.3 for spans with every Lo and Hi at the edges, alone and among others.
func TestSpans(t *testing.T) {
	edges := []int{math.MinInt, -1000001, -2, -1, 0, 1, 2, 3, 499999, 500000, 500001, 999998, 999999, 1000000, 1000001, 1000002, 1 << 31, 1 << 32, math.MaxInt}
	for _, lo := range edges {
		for _, hi := range append([]int{lo}, edges...) {
			want := lo >= 0 && hi >= lo && hi <= 1000000
			name := "from " + strconv.Itoa(lo) + " to " + strconv.Itoa(hi)
			for _, r := range [][][]api.Rel{
				rule(row(relation(0, from(lo, hi)))),
				rule(row(relationNot(0, from(lo, hi)))),
				rule(row(relation(10, only(4), from(lo, hi)))),
				rule(row(relationNot(10, from(lo, hi), only(4)))),
			} {
				checkRight(t, name, r, want)
				if !want {
					checkPrint(t, name, r, "", api.ErrArg)
				}
				checkDefined(t, name, r)
			}
		}
	}
}

// TestPrint: P8.1 for rules whose texts are written out here; and P8.2 the other way.
func TestPrint(t *testing.T) {
	for _, x := range []struct {
		want string
		rule [][]api.Rel
	}{
		{"i = 1", rule(row(relation(0, only(1))))},
		{"i = 0", rule(row(relation(0, only(0))))},
		{"i != 0", rule(row(relationNot(0, only(0))))},
		{"i = 0..1", rule(row(relation(0, from(0, 1))))},
		{"i = 999999..1000000", rule(row(relation(0, from(999999, 1000000))))},
		{"i = 0..1000000", rule(row(relation(0, from(0, 1000000))))},
		{"i = 1000000", rule(row(relation(0, only(1000000))))},
		{"i = 1,0,1", rule(row(relation(0, only(1), only(0), only(1))))},
		{"i = 5..9,2..4,3", rule(row(relation(0, from(5, 9), from(2, 4), only(3))))},
		{"i % 2 = 0", rule(row(relation(2, only(0))))},
		{"i % 2 != 7", rule(row(relationNot(2, only(7))))},
		{"i % 999999 = 10", rule(row(relation(999999, only(10))))},
		{"i % 1000000 != 100..200,300", rule(row(relationNot(1000000, from(100, 200), only(300))))},
		{"i = 1 and i = 2", rule(row(relation(0, only(1)), relation(0, only(2))))},
		{"i = 1 or i = 2", rule(row(relation(0, only(1))), row(relation(0, only(2))))},
		{"i = 1 or i = 2 and i = 3", rule(row(relation(0, only(1))), row(relation(0, only(2)), relation(0, only(3))))},
		{"i = 1 and i = 2 or i = 3", rule(row(relation(0, only(1)), relation(0, only(2))), row(relation(0, only(3))))},
		{"i % 10 = 0,5..9 or i % 100 = 11..14", rule(row(relation(10, only(0), from(5, 9))), row(relation(100, from(11, 14))))},
		{"i % 10 = 2..4 and i % 100 != 12..14", rule(row(relation(10, from(2, 4)), relationNot(100, from(12, 14))))},
	} {
		checkPrint(t, x.want, x.rule, x.want, api.OK)
		checkParse(t, x.want, x.want, x.rule, api.OK, 0)
		checkDefined(t, x.want, x.rule)
	}
}

// longRule is a rule whose text has so many bytes, from 390 to 401.
func longRule(size int) [][]api.Rel {
	rel := relation(0, slices.Repeat([]api.Span{only(1000000)}, 10)...)
	last := relation(0, slices.Repeat([]api.Span{only(1000000)}, 4)...)
	r := rule(row(rel, rel, rel, rel, last))
	for digits, left := []int{1, 12, 123, 1234, 12345, 123456, 1000000}, size-len(written(r)); left > 0; {
		n := min(left-1, 7)
		if left-n-1 == 1 {
			n--
		}
		left -= n + 1
		r[0][4].Spans = append(r[0][4].Spans, only(digits[n-1]))
	}
	return r
}

// TestLongTexts: P8.1 and P8.2 for texts of nearly as many bytes as may be, of as many, and of more.
func TestLongTexts(t *testing.T) {
	for size := 391; size <= 402; size++ {
		name := strconv.Itoa(size) + " bytes"
		r := longRule(size)
		s := written(r)
		if len(s) != size || !slowRight(r) {
			t.Fatalf("%s: the test's own rule is %s", name, short(r))
		}
		checkRight(t, name, r, true)
		checkHolds(t, name, r, 1000000, true)
		if size <= 400 {
			checkPrint(t, name, r, s, api.OK)
			checkParse(t, name, s, r, api.OK, 0)
		} else {
			checkPrint(t, name, r, "", api.ErrLong)
			checkParse(t, name, s, nil, api.ErrLong, 0)
		}
		checkDefined(t, name, r)
		checkParseDefined(t, name, s)

		wrong := copied(r)
		wrong[0][0].Spans[0] = from(1000000, 999999)
		checkPrint(t, name+" and not valid", wrong, "", api.ErrArg)
	}
}

// TestHolds: P8.3 for ordinary rules, and for absolute values and remainders at the edges.
func TestHolds(t *testing.T) {
	const smallest, greatest = math.MinInt64, math.MaxInt64
	for _, x := range []struct {
		name string
		rule [][]api.Rel
		n    int64
		want bool
	}{
		{"0", rule(row(relation(0, only(0)))), 0, true},
		{"0, Not", rule(row(relationNot(0, only(0)))), 0, false},
		{"1", rule(row(relation(0, only(1)))), 1, true},
		{"1, Not", rule(row(relationNot(0, only(1)))), 1, false},
		{"-1", rule(row(relation(0, only(1)))), -1, true},
		{"-1, Not", rule(row(relationNot(0, only(1)))), -1, false},
		{"2 is not 1", rule(row(relation(0, only(1)))), 2, false},
		{"2 is not 1, Not", rule(row(relationNot(0, only(1)))), 2, true},

		{"one below Lo", rule(row(relation(0, from(3, 5)))), 2, false},
		{"at Lo", rule(row(relation(0, from(3, 5)))), 3, true},
		{"at Hi", rule(row(relation(0, from(3, 5)))), 5, true},
		{"at Hi, negative", rule(row(relation(0, from(3, 5)))), -5, true},
		{"one above Hi", rule(row(relation(0, from(3, 5)))), 6, false},
		{"in the last span", rule(row(relation(0, only(9), from(3, 5)))), 4, true},
		{"in the first span", rule(row(relation(0, from(3, 5), only(9)))), 4, true},
		{"in no span", rule(row(relation(0, from(3, 5), only(9)))), 7, false},
		{"in no span, Not", rule(row(relationNot(0, from(3, 5), only(9)))), 7, true},
		{"in one span, Not", rule(row(relationNot(0, from(3, 5), only(9)))), 9, false},

		{"remainder", rule(row(relation(10, only(1)))), 21, true},
		{"remainder, not the number", rule(row(relation(10, only(21)))), 21, false},
		{"remainder of a negative number", rule(row(relation(10, only(1)))), -21, true},
		{"remainder of a negative number is not negative", rule(row(relation(10, only(9)))), -21, false},
		{"remainder of -7 by 5", rule(row(relation(5, only(2)))), -7, true},
		{"remainder of -7 by 5, the other way", rule(row(relation(5, only(3)))), -7, false},
		{"remainder 0", rule(row(relation(10, only(0)))), -20, true},
		{"remainder by 2", rule(row(relation(2, only(1)))), -3, true},
		{"remainder one below", rule(row(relation(1000000, only(999999)))), 1999999, true},
		{"remainder at", rule(row(relation(1000000, only(0)))), 2000000, true},
		{"remainder is below Mod", rule(row(relation(1000000, only(1000000)))), 1000000, false},
		{"no remainder", rule(row(relation(0, only(1000000)))), 1000000, true},

		{"the smallest", rule(row(relation(0, from(0, 1000000)))), smallest, false},
		{"the smallest, Not", rule(row(relationNot(0, from(0, 1000000)))), smallest, true},
		{"the smallest by 10", rule(row(relation(10, only(8)))), smallest, true},
		{"the smallest by 1000000", rule(row(relation(1000000, only(775808)))), smallest, true},
		{"the smallest by 1000000, Not", rule(row(relationNot(1000000, only(775808)))), smallest, false},
		{"the smallest by 3", rule(row(relation(3, only(2)))), smallest, true},
		{"the smallest by 2", rule(row(relation(2, only(0)))), smallest, true},
		{"the smallest but one by 1000000", rule(row(relation(1000000, only(775807)))), smallest + 1, true},
		{"the greatest", rule(row(relation(0, from(0, 1000000)))), greatest, false},
		{"the greatest, Not", rule(row(relationNot(0, from(0, 1000000)))), greatest, true},
		{"the greatest by 1000000", rule(row(relation(1000000, only(775807)))), greatest, true},
		{"the greatest by 3", rule(row(relation(3, only(1)))), greatest, true},
		{"2^32 is not 0", rule(row(relation(0, only(0)))), 1 << 32, false},
		{"2^32 + 1 is not 1", rule(row(relation(0, only(1)))), 1<<32 + 1, false},

		{"all of a row", rule(row(relation(10, only(1)), relationNot(100, only(11)))), 21, true},
		{"not the last of a row", rule(row(relation(10, only(1)), relationNot(100, only(11)))), 11, false},
		{"not the first of a row", rule(row(relation(10, only(1)), relationNot(100, only(11)))), 22, false},
		{"the first row", rule(row(relation(0, only(1))), row(relation(0, only(2)))), 1, true},
		{"the last row", rule(row(relation(0, only(1))), row(relation(0, only(2)))), 2, true},
		{"no row", rule(row(relation(0, only(1))), row(relation(0, only(2)))), 3, false},
		{"half of each row", rule(row(relation(0, only(1)), relation(0, only(2))), row(relation(0, only(2)), relation(0, only(1)))), 1, false},

		{"not valid behind a row that holds", rule(row(relation(0, only(1))), row(relation(1, only(0)))), 1, false},
		{"not valid in a span that is not needed", rule(row(relation(0, only(1), from(3, 2)))), 1, false},
		{"not valid and Not", rule(row(relationNot(0, only(-1)))), 1, false},
	} {
		checkHolds(t, x.name, x.rule, x.n, x.want)
		checkDefined(t, x.name, x.rule)
	}
}

// TestHoldsSweep: P8.3 for many small numbers and Mods.
func TestHoldsSweep(t *testing.T) {
	for mod := range 13 {
		for _, r := range [][][]api.Rel{
			rule(row(relation(mod, from(2, 4), only(7)))),
			rule(row(relationNot(mod, from(2, 4), only(7)))),
			rule(row(relation(mod, from(0, 5)), relationNot(3, only(1))), row(relation(0, only(8)))),
		} {
			for n := int64(-60); n <= 60; n++ {
				checkHolds(t, "sweep", r, n, slowHolds(r, n))
			}
		}
	}
}

// TestPrintAnswersTheSame: what a call answers hangs on its argument alone.
func TestPrintAnswersTheSame(t *testing.T) {
	r := rule(row(relation(10, only(1)), relationNot(100, only(11))))
	first, _ := plural.Print(r)
	plural.Print(longRule(400))
	plural.Parse("i = 7")
	checkPrint(t, "again", r, first, api.OK)
}
