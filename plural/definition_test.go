package plural_test

import (
	"math/big"
	"reflect"
	"regexp"
	"sort"
	"strconv"
	"strings"
	"testing"

	"hornbook/api"
	"hornbook/plural"
)

// relation and relationNot are relations, right or wrong; from is a span, and only one of a single number.
func relation(mod int, spans ...api.Span) api.Rel { return api.Rel{Mod: mod, Spans: spans} }
func relationNot(mod int, spans ...api.Span) api.Rel {
	return api.Rel{Mod: mod, Not: true, Spans: spans}
}
func from(lo, hi int) api.Span           { return api.Span{Lo: lo, Hi: hi} }
func only(n int) api.Span                { return api.Span{Lo: n, Hi: n} }
func row(rels ...api.Rel) []api.Rel      { return rels }
func rule(rows ...[]api.Rel) [][]api.Rel { return rows }

// slowRight counts the wrong ones of all parts, word by word.
func slowRight(rule [][]api.Rel) bool {
	wrong := 0
	few := func(n int) {
		if n == 0 || n > 10 {
			wrong++
		}
	}
	few(len(rule))
	for _, row := range rule {
		few(len(row))
		for _, rel := range row {
			few(len(rel.Spans))
			if rel.Mod != 0 && (rel.Mod < 2 || rel.Mod > 1000000) {
				wrong++
			}
			for _, span := range rel.Spans {
				if span.Lo < 0 || span.Lo > 1000000 || span.Hi < span.Lo || span.Hi > 1000000 {
					wrong++
				}
			}
		}
	}
	return wrong == 0
}

// written is the text of any rule, with each span and each Mod that is not 0 written after the chapter.
func written(rule [][]api.Rel) string {
	var b strings.Builder
	for i, row := range rule {
		if i > 0 {
			b.WriteString(" or ")
		}
		for j, rel := range row {
			if j > 0 {
				b.WriteString(" and ")
			}
			b.WriteString("i")
			if rel.Mod != 0 {
				b.WriteString(" % " + strconv.Itoa(rel.Mod))
			}
			b.WriteString(map[bool]string{false: " = ", true: " != "}[rel.Not])
			for k, span := range rel.Spans {
				if k > 0 {
					b.WriteString(",")
				}
				b.WriteString(strconv.Itoa(span.Lo))
				if span.Hi != span.Lo {
					b.WriteString(".." + strconv.Itoa(span.Hi))
				}
			}
		}
	}
	return b.String()
}

func slowPrint(rule [][]api.Rel) (string, api.Errno) {
	if !slowRight(rule) {
		return "", api.ErrArg
	}
	if s := written(rule); len(s) < 401 {
		return s, api.OK
	}
	return "", api.ErrLong
}

// slowHolds reckons with numbers of any size.
func slowHolds(rule [][]api.Rel, n int64) bool {
	if !slowRight(rule) {
		return false
	}
	holds := false
	for _, row := range rule {
		all := true
		for _, rel := range row {
			i := big.NewInt(n)
			i.Abs(i)
			if rel.Mod > 0 {
				i.Mod(i, big.NewInt(int64(rel.Mod)))
			}
			in := false
			for _, span := range rel.Spans {
				in = in || i.Cmp(big.NewInt(int64(span.Lo))) >= 0 && i.Cmp(big.NewInt(int64(span.Hi))) <= 0
			}
			all = all && in == !rel.Not
		}
		holds = holds || all
	}
	return holds
}

const (
	aNumber   = `(?:1000000|[1-9][0-9]{0,5}|0)`
	aSpan     = aNumber + `(?:\.\.` + aNumber + `)?`
	aRelation = `i(?: % ` + aNumber + `)? !?= ` + aSpan + `(?:,` + aSpan + `)*`
	aRow      = aRelation + `(?: and ` + aRelation + `)*`
)

var (
	form  = regexp.MustCompile(`\A` + aRow + `(?: or ` + aRow + `)*\z`)
	zero  = regexp.MustCompile(`% 0 `)
	parts = regexp.MustCompile(`\Ai(?: % ([0-9]+))? (!?)= (.*)\z`)
)

// endings complete every text that the beginning of a text of the form can be.
var endings = strings.Split("/1/.1/ 1/= 1/ = 1/1 = 1/ 1 = 1/i = 1/ i = 1/r i = 1/or i = 1/d i = 1/nd i = 1", "/")

// begins tells whether a text of the form begins so.
func begins(s string) bool {
	for _, end := range endings {
		if form.MatchString(s + end) {
			return true
		}
	}
	return false
}

// slowParse looks for the shortest beginning that cannot go on in any way.
func slowParse(s string) ([][]api.Rel, api.Errno, int) {
	if len(s) > 400 {
		return nil, api.ErrLong, 0
	}
	if n := sort.Search(len(s)+1, func(n int) bool { return !begins(s[:n]) }); n <= len(s) {
		return nil, api.ErrRule, n - 1
	}
	if !form.MatchString(s) {
		return nil, api.ErrEnd, len(s)
	}
	rule, rises := taken(s)
	if zero.MatchString(s) || !rises || !slowRight(rule) {
		return nil, api.ErrArg, 0
	}
	return rule, api.OK, 0
}

// taken takes a text of the form apart, and tells whether each `..` leads to a greater number.
func taken(s string) ([][]api.Rel, bool) {
	var rule [][]api.Rel
	rises := true
	for _, rowText := range strings.Split(s, " or ") {
		var row []api.Rel
		for _, relText := range strings.Split(rowText, " and ") {
			m := parts.FindStringSubmatch(relText)
			mod, _ := strconv.Atoi(m[1])
			rel := api.Rel{Mod: mod, Not: m[2] == "!"}
			for _, spanText := range strings.Split(m[3], ",") {
				lo, hi, two := strings.Cut(spanText, "..")
				span := api.Span{}
				span.Lo, _ = strconv.Atoi(lo)
				span.Hi = span.Lo
				if two {
					span.Hi, _ = strconv.Atoi(hi)
					rises = rises && span.Hi > span.Lo
				}
				rel.Spans = append(rel.Spans, span)
			}
			row = append(row, rel)
		}
		rule = append(rule, row)
	}
	return rule, rises
}

// roomy answers a list that is the same, with one more element behind its end, by which is seen whether it is written to.
func roomy[T any](list []T, mark T) []T {
	if list == nil {
		return nil
	}
	all := append(append(make([]T, 0, len(list)+1), list...), mark)
	return all[:len(list)]
}

// copied answers a rule that is the same, all of its lists new and with room.
func copied(rule [][]api.Rel) [][]api.Rel {
	mark := relation(-7, only(-7))
	out := roomy(rule, row(mark))
	for i := range out {
		out[i] = roomy(out[i], mark)
		for j := range out[i] {
			out[i][j].Spans = roomy(out[i][j].Spans, only(-7))
		}
	}
	return out
}

// whole answers a rule that copied made with what stands behind its lists.
func whole(rule [][]api.Rel) [][]api.Rel {
	var out [][]api.Rel
	for _, row := range rule[:cap(rule)] {
		var rels []api.Rel
		for _, rel := range row[:cap(row)] {
			rel.Spans = append([]api.Span(nil), rel.Spans[:cap(rel.Spans)]...)
			rels = append(rels, rel)
		}
		out = append(out, rels)
	}
	return out
}

// guarded answers a rule that is the same, and a function that tells whether all of it is as it was.
func guarded(rule [][]api.Rel) ([][]api.Rel, func() bool) {
	a := copied(rule)
	before := whole(a)
	return a, func() bool { return reflect.DeepEqual(before, whole(a)) }
}

// same tells whether two rules are the same; a list without elements is, nil or not.
func same(a, b [][]api.Rel) bool {
	if len(a) != len(b) {
		return false
	}
	for i := range a {
		if len(a[i]) != len(b[i]) {
			return false
		}
		for j := range a[i] {
			x, y := a[i][j], b[i][j]
			if x.Mod != y.Mod || x.Not != y.Not || len(x.Spans) != len(y.Spans) {
				return false
			}
			for k := range x.Spans {
				if x.Spans[k] != y.Spans[k] {
					return false
				}
			}
		}
	}
	return true
}

// brief keeps a failure readable when what failed is long.
func brief(s string) string {
	if len(s) <= 80 {
		return strconv.Quote(s)
	}
	return strconv.Quote(s[:80]) + ".. of " + strconv.Itoa(len(s)) + " bytes"
}

// short tells a rule by its text and how many relations each of its rows has.
func short(rule [][]api.Rel) string {
	s := brief(written(rule))
	for _, row := range rule {
		s += "," + strconv.Itoa(len(row))
	}
	return s
}

func checkRight(t *testing.T, name string, rule [][]api.Rel, want bool) {
	t.Helper()
	a, intact := guarded(rule)
	if got := plural.Right(a); got != want {
		t.Errorf("%s: Right of %s is %t", name, short(rule), got)
	}
	if !intact() {
		t.Errorf("%s: Right changes its argument", name)
	}
}

func checkPrint(t *testing.T, name string, rule [][]api.Rel, want string, wantErr api.Errno) {
	t.Helper()
	a, intact := guarded(rule)
	if got, e := plural.Print(a); got != want || e != wantErr {
		t.Errorf("%s: Print of %s answers %s, %d, not %s, %d", name, short(rule), brief(got), e, brief(want), wantErr)
	}
	if !intact() {
		t.Errorf("%s: Print changes its argument", name)
	}
}

func checkHolds(t *testing.T, name string, rule [][]api.Rel, n int64, want bool) {
	t.Helper()
	a, intact := guarded(rule)
	if got := plural.Holds(a, n); got != want {
		t.Errorf("%s: Holds of %s and %d is %t", name, short(rule), n, got)
	}
	if !intact() {
		t.Errorf("%s: Holds changes its argument", name)
	}
}

func checkParse(t *testing.T, name, s string, want [][]api.Rel, wantErr api.Errno, wantAt int) {
	t.Helper()
	if got, e, at := plural.Parse(s); !same(got, want) || e != wantErr || at != wantAt {
		t.Errorf("%s: Parse of %s answers %s, %d, %d, not %s, %d, %d", name, brief(s), short(got), e, at, short(want), wantErr, wantAt)
	}
}

// numbers are those at which rules are tried: around what a span and a Mod may be, and the greatest and the smallest.
var numbers = []int64{0, 1, -1, 2, -2, 3, 9, 10, 11, -11, 12, 100, 999999, -999999, 1000000, -1000000, 1000001, 1999999, 2000000, 1 << 31, 1 << 32, 1<<63 - 2, 1<<63 - 1, -1<<63 + 1, -1 << 63}

// checkDefined holds a rule against the chapter's words, and its text with it.
func checkDefined(t *testing.T, name string, rule [][]api.Rel) {
	t.Helper()
	checkRight(t, name, rule, slowRight(rule))
	s, e := slowPrint(rule)
	checkPrint(t, name, rule, s, e)
	if e == api.OK {
		checkParse(t, name, s, rule, api.OK, 0)
	}
	for _, n := range numbers {
		checkHolds(t, name, rule, n, slowHolds(rule, n))
	}
}

func checkParseDefined(t *testing.T, name, s string) {
	t.Helper()
	want, e, at := slowParse(s)
	checkParse(t, name, s, want, e, at)
}
