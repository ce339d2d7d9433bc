package delta_test

import (
	"math"
	"slices"
	"strconv"
	"strings"
	"testing"

	"hornbook/api"
	"hornbook/code"
	"hornbook/delta"
)

// cp is a copy, ins an insert, both right or wrong.
func cp(from, n int) api.Op    { return api.Op{From: from, Len: n} }
func ins(text string) api.Op   { return api.Op{Text: text} }
func ops(d ...api.Op) []api.Op { return d }

// times is so many operations that are the same.
func times(op api.Op, n int) []api.Op { return slices.Repeat(ops(op), n) }

// text is so many bytes.
func text(n int) string { return strings.Repeat("x", n) }

// slowValid takes the definition of a valid operation word by word.
func slowValid(op api.Op) bool {
	if op.Len == 0 {
		return op.From == 0 && 0 < len(op.Text) && len(op.Text) < 131073
	}
	return 0 < op.Len && op.Len < 131073 && -1 < op.From && op.From < 131073 && len(op.Text) == 0
}

func slowRight(d []api.Op) bool {
	valid := 0
	for _, op := range d {
		if slowValid(op) {
			valid++
		}
	}
	return valid == len(d) && valid < 2001
}

func slowSize(d []api.Op) int {
	if !slowRight(d) {
		return 0
	}
	n := 0
	for _, op := range d {
		n += len(op.Text) + 8
	}
	return n
}

// slowApply goes byte by byte, and stops at the first byte that is one too many.
func slowApply(old string, d []api.Op, most int) (string, api.Errno) {
	if !slowRight(d) {
		return "", api.ErrDelta
	}
	if most > 1048576 {
		most = 1048576
	}
	if most < 0 {
		most = 0
	}
	var out []byte
	for _, op := range d {
		piece := op.Text
		if op.Len > 0 {
			if op.From+op.Len > len(old) {
				return "", api.ErrDelta
			}
			piece = old[op.From:][:op.Len]
		}
		for i := range len(piece) {
			out = append(out, piece[i])
			if len(out) > most {
				return "", api.ErrLong
			}
		}
	}
	return string(out), api.OK
}

// written is a delta in the bytes of chapter 1, and how many values that is.
func written(d []api.Op) (string, int) {
	var b strings.Builder
	values := 1
	b.WriteString("l")
	for _, op := range d {
		if op.Len > 0 {
			b.WriteString("li" + strconv.Itoa(op.From) + "ei" + strconv.Itoa(op.Len) + "ee")
			values += 3
		} else {
			b.WriteString(strconv.Itoa(len(op.Text)) + ":" + op.Text)
			values++
		}
	}
	b.WriteString("e")
	return b.String(), values
}

func slowBytes(d []api.Op) (string, api.Errno) {
	if !slowRight(d) {
		return "", api.ErrDelta
	}
	s, values := written(d)
	if len(s) > 131072 || values > 4000 {
		return "", api.ErrLong
	}
	return s, api.OK
}

// slowParse makes a delta of whatever the value has, and takes it if that delta is written as the string is.
func slowParse(s string) ([]api.Op, api.Errno) {
	v, e, _ := code.Get(s)
	if e != api.OK {
		return nil, e
	}
	var d []api.Op
	for _, x := range v.L {
		op := api.Op{Text: x.S}
		if len(x.L) > 0 {
			op.From = int(x.L[0].N)
		}
		if len(x.L) > 1 {
			op.Len = int(x.L[1].N)
		}
		d = append(d, op)
	}
	if again, e := slowBytes(d); e != api.OK || again != s {
		return nil, api.ErrDelta
	}
	return d, api.OK
}

// brief keeps a failure readable when what failed is long.
func brief(s string) string {
	if len(s) <= 60 {
		return strconv.Quote(s)
	}
	return strconv.Quote(s[:60]) + ".. of " + strconv.Itoa(len(s)) + " bytes"
}

// short tells a delta: all of a small one, the number of operations of a great one.
func short(d []api.Op) string {
	if len(d) > 8 {
		return strconv.Itoa(len(d)) + " operations"
	}
	var b strings.Builder
	for _, op := range d {
		b.WriteString("{" + strconv.Itoa(op.From) + " " + strconv.Itoa(op.Len) + " " + brief(op.Text) + "}")
	}
	return "{" + b.String() + "}"
}

// guarded answers a delta that is the same, with room behind it that is written to, and a function that tells whether all of this is as it was.
func guarded(d []api.Op) ([]api.Op, func() bool) {
	if d == nil {
		return nil, func() bool { return true }
	}
	all := slices.Concat(d, times(api.Op{From: -7, Len: -7, Text: "mark"}, 3))
	before := slices.Clone(all)
	return all[:len(d)], func() bool { return slices.Equal(all, before) }
}

func checkRight(t *testing.T, name string, d []api.Op, want bool) {
	t.Helper()
	a, intact := guarded(d)
	if got := delta.Right(a); got != want {
		t.Errorf("%s: Right of %s is %t", name, short(d), got)
	}
	if !intact() {
		t.Errorf("%s: Right changes its argument", name)
	}
}

func checkSize(t *testing.T, name string, d []api.Op, want int) {
	t.Helper()
	a, intact := guarded(d)
	if got := delta.Size(a); got != want {
		t.Errorf("%s: Size of %s is %d, not %d", name, short(d), got, want)
	}
	if !intact() {
		t.Errorf("%s: Size changes its argument", name)
	}
}

func checkApply(t *testing.T, name, old string, d []api.Op, most int, want string, wantErr api.Errno) {
	t.Helper()
	a, intact := guarded(d)
	if got, e := delta.Apply(old, a, most); got != want || e != wantErr {
		t.Errorf("%s: Apply of %s to %s with %d answers %s, %d, not %s, %d", name, short(d), brief(old), most, brief(got), e, brief(want), wantErr)
	}
	if !intact() {
		t.Errorf("%s: Apply changes its argument", name)
	}
}

func checkBytes(t *testing.T, name string, d []api.Op, want string, wantErr api.Errno) {
	t.Helper()
	a, intact := guarded(d)
	if got, e := delta.Bytes(a); got != want || e != wantErr {
		t.Errorf("%s: Bytes of %s answers %s, %d, not %s, %d", name, short(d), brief(got), e, brief(want), wantErr)
	}
	if !intact() {
		t.Errorf("%s: Bytes changes its argument", name)
	}
}

func checkParse(t *testing.T, name, s string, want []api.Op, wantErr api.Errno) {
	t.Helper()
	if got, e := delta.Parse(s); !slices.Equal(got, want) || e != wantErr {
		t.Errorf("%s: Parse of %s answers %s, %d, not %s, %d", name, brief(s), short(got), e, short(want), wantErr)
	}
}

// checkDefined holds a delta against the chapter's words, for one old string and for limits around the length of the output.
func checkDefined(t *testing.T, name, old string, d []api.Op) {
	t.Helper()
	checkRight(t, name, d, slowRight(d))
	checkSize(t, name, d, slowSize(d))
	whole, _ := slowApply(old, d, math.MaxInt)
	n := len(whole)
	for _, most := range []int{math.MinInt, -1, 0, 1, n / 2, n - 1, n, n + 1, 1<<20 - 1, 1 << 20, 1<<20 + 1, math.MaxInt} {
		want, e := slowApply(old, d, most)
		checkApply(t, name, old, d, most, want, e)
	}
	s, e := slowBytes(d)
	checkBytes(t, name, d, s, e)
	if e == api.OK {
		checkParse(t, name, s, d, api.OK)
	}
}

func checkParseDefined(t *testing.T, name, s string) {
	t.Helper()
	want, e := slowParse(s)
	checkParse(t, name, s, want, e)
}
