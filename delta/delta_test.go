package delta_test

import (
	"math"
	"slices"
	"strconv"
	"strings"
	"testing"

	"hornbook/api"
	"hornbook/delta"
)

// TestOperations: P7.1 for deltas of one operation, right and wrong.
func TestOperations(t *testing.T) {
	for _, x := range []struct {
		name string
		op   api.Op
		want bool
	}{
		{"copy of 1", cp(0, 1), true},
		{"copy of 131072", cp(0, 131072), true},
		{"copy of 131073", cp(0, 131073), false},
		{"copy of -1", cp(0, -1), false},
		{"copy of -1 from 1", cp(1, -1), false},
		{"copy of 0", cp(0, 0), false},
		{"copy of 0 from 1", cp(1, 0), false},
		{"copy from 1", cp(1, 1), true},
		{"copy from -1", cp(-1, 1), false},
		{"copy from -1 of 2", cp(-1, 2), false},
		{"copy from 131072", cp(131072, 1), true},
		{"copy from 131073", cp(131073, 1), false},
		{"copy of the most from the last", cp(131072, 131072), true},
		{"copy of the greatest", cp(0, math.MaxInt), false},
		{"copy of the smallest", cp(0, math.MinInt), false},
		{"copy from the greatest", cp(math.MaxInt, 1), false},
		{"copy from the smallest", cp(math.MinInt, 1), false},
		{"copy of the greatest from the greatest", cp(math.MaxInt, math.MaxInt), false},
		{"copy of the smallest from the smallest", cp(math.MinInt, math.MinInt), false},
		{"copy of the greatest from the smallest", cp(math.MinInt, math.MaxInt), false},
		{"copy with text", api.Op{Len: 1, Text: "x"}, false},
		{"copy from 1 with text", api.Op{From: 1, Len: 1, Text: "x"}, false},
		{"copy of 131072 with text", api.Op{From: 131072, Len: 131072, Text: "x"}, false},
		{"copy with a long text", api.Op{Len: 131072, Text: text(131072)}, false},

		{"nothing", api.Op{}, false},
		{"insert of 1", ins("x"), true},
		{"insert of any bytes", ins("\x00\xff"), true},
		{"insert of 131072", ins(text(131072)), true},
		{"insert of 131073", ins(text(131073)), false},
		{"insert from 1", api.Op{From: 1, Text: "x"}, false},
		{"insert from -1", api.Op{From: -1, Text: "x"}, false},
		{"insert from the greatest", api.Op{From: math.MaxInt, Text: "x"}, false},
		{"insert from the smallest", api.Op{From: math.MinInt, Text: "x"}, false},
		{"insert of -1", api.Op{Len: -1, Text: "x"}, false},
		{"insert of the smallest", api.Op{Len: math.MinInt, Text: "x"}, false},
	} {
		d := ops(x.op)
		checkRight(t, x.name, d, x.want)
		checkRight(t, x.name+", behind others", ops(cp(1, 2), ins("a"), x.op), x.want)
		checkRight(t, x.name+", ahead of others", ops(x.op, cp(1, 2), ins("a")), x.want)
		if !x.want {
			checkSize(t, x.name, d, 0)
			checkApply(t, x.name, text(300000), d, 1<<20, "", api.ErrDelta)
			checkBytes(t, x.name, d, "", api.ErrDelta)
			checkSize(t, x.name+", behind others", ops(ins("a"), x.op), 0)
		}
		checkDefined(t, x.name, text(262144), d)
		checkDefined(t, x.name+", among others", text(9), ops(cp(1, 2), ins("a"), x.op, ins("b")))
	}
}

// TestNumberOfOperations: P7.1 for as many operations as may be, and more.
func TestNumberOfOperations(t *testing.T) {
	for _, x := range []struct {
		n    int
		want bool
	}{{0, true}, {1, true}, {1999, true}, {2000, true}, {2001, false}, {4000, false}} {
		name := strconv.Itoa(x.n) + " operations"
		inserts, copies := times(ins("ab"), x.n), times(cp(1, 1), x.n)
		checkRight(t, name, inserts, x.want)
		checkRight(t, name, copies, x.want)
		if x.want {
			checkSize(t, name, inserts, 10*x.n)
			checkSize(t, name, copies, 8*x.n)
			checkApply(t, name, "xyz", inserts, 1<<20, strings.Repeat("ab", x.n), api.OK)
			checkApply(t, name, "xyz", copies, 1<<20, strings.Repeat("y", x.n), api.OK)
		} else {
			checkSize(t, name, inserts, 0)
			checkApply(t, name, "xyz", copies, 1<<20, "", api.ErrDelta)
			checkBytes(t, name, inserts, "", api.ErrDelta)
		}
		checkDefined(t, name, "xyz", inserts)
		checkDefined(t, name, "xyz", copies)
		checkRight(t, name+", the last one wrong", append(times(ins("a"), max(0, x.n-1)), cp(0, 0)), false)
	}
	checkRight(t, "nil", nil, true)
	checkRight(t, "empty", ops(), true)
	checkSize(t, "nil", nil, 0)
	checkApply(t, "nil", "abc", nil, 9, "", api.OK)
	checkApply(t, "empty", "abc", []api.Op{}, 0, "", api.OK)
	checkApply(t, "nil of nothing", "", nil, -1, "", api.OK)
	checkBytes(t, "nil", nil, "le", api.OK)
	checkBytes(t, "empty", []api.Op{}, "le", api.OK)
}

// TestSize: P7.1: 8 for each operation, and the texts.
func TestSize(t *testing.T) {
	checkSize(t, "copy", ops(cp(5, 131072)), 8)
	checkSize(t, "insert", ops(ins("abc")), 11)
	checkSize(t, "both", ops(cp(1, 2), ins("x"), cp(0, 1)), 25)
	checkSize(t, "inserts that are adjacent", ops(ins("x"), ins("yz")), 19)
	checkSize(t, "the greatest", times(ins(text(131072)), 2000), 2000*131080)
}

// TestApply: P7.1 for ordinary deltas, and for copies at the end of the old string.
func TestApply(t *testing.T) {
	for _, x := range []struct {
		name, old string
		d         []api.Op
		most      int
		want      string
		err       api.Errno
	}{
		{"the chapter's first", "abcd", ops(cp(1, 2), ins("x"), cp(0, 1)), 9, "bcxa", api.OK},
		{"the chapter's second", "ab", ops(cp(1, 2)), 9, "", api.ErrDelta},
		{"the chapter's third", "abcd", ops(cp(1, 2), ins("x")), 2, "", api.ErrLong},
		{"the same again", "ab", ops(cp(0, 2), cp(0, 2), cp(1, 1), cp(0, 1)), 9, "ababba", api.OK},
		{"inserts that are adjacent", "", ops(ins("a"), ins("bc")), 9, "abc", api.OK},
		{"any bytes", "\x00\xff\xfe", ops(cp(1, 2), ins("\x80")), 9, "\xff\xfe\x80", api.OK},

		{"one below the end", "abcd", ops(cp(1, 2)), 9, "bc", api.OK},
		{"at the end", "abcd", ops(cp(1, 3)), 9, "bcd", api.OK},
		{"one above the end", "abcd", ops(cp(1, 4)), 9, "", api.ErrDelta},
		{"all", "abcd", ops(cp(0, 4)), 4, "abcd", api.OK},
		{"all and one more", "abcd", ops(cp(0, 5)), 9, "", api.ErrDelta},
		{"from the last byte", "abcd", ops(cp(3, 1)), 9, "d", api.OK},
		{"from the end", "abcd", ops(cp(4, 1)), 9, "", api.ErrDelta},
		{"far behind the end", "abcd", ops(cp(131072, 131072)), 9, "", api.ErrDelta},
		{"of nothing", "", ops(cp(0, 1)), 9, "", api.ErrDelta},

		{"most at the length", "abcd", ops(cp(0, 2), ins("xy")), 4, "abxy", api.OK},
		{"most one below", "abcd", ops(cp(0, 2), ins("xy")), 3, "", api.ErrLong},
		{"most one above", "abcd", ops(cp(0, 2), ins("xy")), 5, "abxy", api.OK},
		{"most one below, a copy last", "abcd", ops(ins("xy"), cp(0, 2)), 3, "", api.ErrLong},
		{"most of 0", "abcd", ops(ins("x")), 0, "", api.ErrLong},
		{"most below 0", "abcd", ops(ins("x")), -1, "", api.ErrLong},
		{"most below 0, nothing", "abcd", nil, -1, "", api.OK},
		{"the smallest most", "abcd", ops(cp(0, 1)), math.MinInt, "", api.ErrLong},
		{"the smallest most, nothing", "abcd", nil, math.MinInt, "", api.OK},
		{"the greatest most", "abcd", ops(cp(0, 1)), math.MaxInt, "a", api.OK},

		{"does not fit and too long at once", "ab", ops(cp(0, 3)), 2, "", api.ErrDelta},
		{"does not fit and most of 0", "ab", ops(cp(0, 3)), 0, "", api.ErrDelta},
		{"does not fit, then too long", "ab", ops(cp(1, 2), ins("xyz")), 2, "", api.ErrDelta},
		{"too long, then does not fit", "ab", ops(ins("xyz"), cp(1, 2)), 2, "", api.ErrLong},
		{"too long in all, then does not fit", "ab", ops(ins("x"), cp(0, 2), cp(1, 2)), 2, "", api.ErrLong},
		{"just not too long, then does not fit", "ab", ops(ins("x"), cp(0, 1), cp(1, 2)), 2, "", api.ErrDelta},
		{"too long, then not valid", "ab", ops(ins("xyz"), cp(0, 0)), 2, "", api.ErrDelta},
		{"does not fit, then not valid", "ab", ops(cp(2, 2), cp(-1, 1)), 9, "", api.ErrDelta},
	} {
		checkApply(t, x.name, x.old, x.d, x.most, x.want, x.err)
		checkDefined(t, x.name, x.old, x.d)
	}
}

// TestApplyMost: P7.1 for outputs around 2^20 bytes, beyond which nothing is answered, whatever most is.
func TestApplyMost(t *testing.T) {
	old := strings.Repeat("ab", 65536)
	full := times(cp(0, 131072), 8)
	want := strings.Repeat(old, 8)
	for _, most := range []int{1 << 20, 1<<20 + 1, 1 << 21, math.MaxInt} {
		checkApply(t, "2^20 bytes", old, full, most, want, api.OK)
		checkApply(t, "one byte more", old, append(slices.Clone(full), ins("x")), most, "", api.ErrLong)
		checkApply(t, "far more", old, times(ins(old), 2000), most, "", api.ErrLong)
		checkApply(t, "one byte less", old, append(full[:7:7], cp(1, 131071)), most, want[:7<<17]+old[1:], api.OK)
	}
	checkApply(t, "2^20 bytes", old, full, 1<<20-1, "", api.ErrLong)
	checkApply(t, "an old string that is long", text(1<<22)+"y", ops(cp(131072, 131072)), 1<<20, text(131072), api.OK)
	checkApply(t, "just long enough", text(262143)+"y", ops(cp(131072, 131072)), 1<<20, text(131071)+"y", api.OK)
	checkApply(t, "one byte too short", text(262143), ops(cp(131072, 131072)), 1<<20, "", api.ErrDelta)
}

// TestSmallDeltas: P7.1 and P7.3 for every delta of up to two operations with small numbers, right and wrong.
func TestSmallDeltas(t *testing.T) {
	var all []api.Op
	for from := -1; from <= 3; from++ {
		for n := -1; n <= 3; n++ {
			for _, s := range []string{"", "x", "yz"} {
				all = append(all, api.Op{From: from, Len: n, Text: s})
			}
		}
	}
	for _, old := range []string{"", "a", "abc"} {
		for _, a := range all {
			checkDefined(t, "one", old, ops(a))
			for _, b := range all {
				checkDefined(t, "two", old, ops(a, b))
			}
		}
	}
}

// TestBytes: P7.3 for deltas whose bytes are written out here, both ways.
func TestBytes(t *testing.T) {
	for _, x := range []struct {
		want string
		d    []api.Op
	}{
		{"lli1ei2ee1:xe", ops(cp(1, 2), ins("x"))},
		{"le", nil},
		{"lli0ei1eee", ops(cp(0, 1))},
		{"lli131072ei131072eee", ops(cp(131072, 131072))},
		{"l1:xe", ops(ins("x"))},
		{"l10:0123456789e", ops(ins("0123456789"))},
		{"l2:\x00\xffe", ops(ins("\x00\xff"))},
		{"l4:i1ee2:lee", ops(ins("i1ee"), ins("le"))},
		{"l1:ali3ei4ee1:bli5ei6eee", ops(ins("a"), cp(3, 4), ins("b"), cp(5, 6))},
	} {
		checkBytes(t, x.want, x.d, x.want, api.OK)
		checkParse(t, x.want, x.want, x.d, api.OK)
	}
}

// TestBytesLong: P7.3 for encodings with as many bytes or values as may be, and one more.
func TestBytesLong(t *testing.T) {
	alternating := slices.Repeat(ops(cp(1, 2), ins("x")), 1000)
	for _, x := range []struct {
		name  string
		d     []api.Op
		bytes int
		vals  int
		want  api.Errno
	}{
		{"131072 bytes", ops(ins(text(131063))), 131072, 2, api.OK},
		{"131073 bytes", ops(ins(text(131064))), 131073, 2, api.ErrLong},
		{"an insert of 131072", ops(ins(text(131072))), 131081, 2, api.ErrLong},
		{"131072 bytes in two", ops(ins(text(65536)), ins(text(65522))), 131072, 3, api.OK},
		{"131073 bytes in two", ops(ins(text(65536)), ins(text(65523))), 131073, 3, api.ErrLong},
		{"131072 bytes with a copy", ops(cp(0, 1), ins(text(131055))), 131072, 5, api.OK},
		{"131073 bytes with a copy", ops(cp(0, 10), ins(text(131055))), 131073, 5, api.ErrLong},
		{"3997 values", alternating[:1998], 10991, 3997, api.OK},
		{"4000 values", alternating[:1999], 10999, 4000, api.OK},
		{"4001 values", alternating, 11002, 4001, api.ErrLong},
		{"4000 values of copies", times(cp(1, 2), 1333), 10666, 4000, api.OK},
		{"4003 values of copies", times(cp(1, 2), 1334), 10674, 4003, api.ErrLong},
		{"4001 values of copies and an insert", append(times(cp(1, 2), 1333), ins("x")), 10669, 4001, api.ErrLong},
		{"2000 copies", times(cp(1, 2), 2000), 16002, 6001, api.ErrLong},
		{"2000 inserts", times(ins("x"), 2000), 6002, 2001, api.OK},
		{"both too long", append(slices.Clone(alternating[:1999]), ins(text(131072))), 142078, 4001, api.ErrLong},
	} {
		s, vals := written(x.d)
		if len(s) != x.bytes || vals != x.vals {
			t.Errorf("%s: the test's own delta has %d bytes and %d values", x.name, len(s), vals)
		}
		if x.want == api.OK {
			checkBytes(t, x.name, x.d, s, api.OK)
			checkParse(t, x.name, s, x.d, api.OK)
		} else {
			checkBytes(t, x.name, x.d, "", x.want)
			checkParse(t, x.name, s, nil, api.ErrLong)
		}
	}
	checkBytes(t, "too long and not valid", ops(ins(text(131072)), cp(0, 0)), "", api.ErrDelta)
	checkBytes(t, "too many values and not valid", append(slices.Clone(alternating[:1999]), cp(-1, 1)), "", api.ErrDelta)
}

// TestParseErrors: P7.3 for bytes that are no encoding, or that of another value, or nearly a delta's.
func TestParseErrors(t *testing.T) {
	for _, x := range []struct {
		s    string
		want api.Errno
	}{
		{"", api.ErrEnd},
		{"l", api.ErrEnd},
		{"l1:x", api.ErrEnd},
		{"l2:xe", api.ErrEnd},
		{"lli1ei2ee", api.ErrEnd},
		{"x", api.ErrByte},
		{"e", api.ErrByte},
		{"lee", api.ErrByte},
		{"lex", api.ErrByte},
		{"l01:xe", api.ErrByte},
		{"lli01ei2eee", api.ErrByte},
		{"lli1ei-0eee", api.ErrByte},
		{"l131073:", api.ErrByte},
		{"lli0ei9223372036854775808eee", api.ErrByte},
		{strings.Repeat("l", 31), api.ErrDeep},
		{"l" + strings.Repeat("1:x", 4000) + "e", api.ErrLong},
		{"l131064:" + text(131064) + "e", api.ErrLong},
		{text(131073), api.ErrLong},

		// The error of the encoding comes ahead of a delta that is not valid.
		{"ll", api.ErrEnd},
		{"i5ex", api.ErrByte},
		{"li5e", api.ErrEnd},
		{"l0:x", api.ErrByte},

		{"i0e", api.ErrDelta},
		{"i1e", api.ErrDelta},
		{"0:", api.ErrDelta},
		{"1:x", api.ErrDelta},
		{"2:le", api.ErrDelta},
		{"li1ee", api.ErrDelta},
		{"li1ei2ee", api.ErrDelta},
		{"l0:e", api.ErrDelta},
		{"l1:x0:e", api.ErrDelta},
		{"llee", api.ErrDelta},
		{"lli1eee", api.ErrDelta},
		{"lli1ei2ei3eee", api.ErrDelta},
		{"lli1ei2e1:xee", api.ErrDelta},
		{"lli1e1:xee", api.ErrDelta},
		{"ll1:xi1eee", api.ErrDelta},
		{"ll0:i1eee", api.ErrDelta},
		{"lli0e0:ee", api.ErrDelta},
		{"ll1:xee", api.ErrDelta},
		{"llli1ei2eeee", api.ErrDelta},
		{"lllei1eee", api.ErrDelta},
		{"lli0eleee", api.ErrDelta},
		{"lli0ei0eee", api.ErrDelta},
		{"lli1ei0eee", api.ErrDelta},
		{"lli1ei-1eee", api.ErrDelta},
		{"lli-1ei1eee", api.ErrDelta},
		{"lli-1ei2eee", api.ErrDelta},
		{"lli131073ei1eee", api.ErrDelta},
		{"lli0ei131073eee", api.ErrDelta},
		{"lli0ei9223372036854775807eee", api.ErrDelta},
		{"lli9223372036854775807ei1eee", api.ErrDelta},
		{"lli0ei-9223372036854775808eee", api.ErrDelta},
		{"lli-9223372036854775808ei1eee", api.ErrDelta},
		// Numbers that would be valid ones if they were cut to 32 bits.
		{"lli4294967296ei1eee", api.ErrDelta},
		{"lli0ei4294967297eee", api.ErrDelta},
		{"l1:xli0ei1eei3ee", api.ErrDelta},
		{"l" + strings.Repeat("1:x", 2001) + "e", api.ErrDelta},
		{"l" + strings.Repeat("1:x", 3999) + "e", api.ErrDelta},
		{strings.Repeat("l", 30) + strings.Repeat("e", 30), api.ErrDelta},
	} {
		checkParse(t, "wrong", x.s, nil, x.want)
		checkParseDefined(t, "wrong", x.s)
	}
	checkParse(t, "2000 operations", "l"+strings.Repeat("1:x", 2000)+"e", times(ins("x"), 2000), api.OK)
}

// TestParseNearly: P7.3 for each string that differs from a delta's bytes in one byte, has one more or one less, or is cut off.
func TestParseNearly(t *testing.T) {
	const letters = "lie:-0123x"
	for _, d := range [][]api.Op{nil, ops(ins("x")), ops(cp(1, 2)), ops(cp(10, 2), ins("x")), ops(ins("le"), cp(0, 1)), ops(cp(131072, 131072), cp(0, 3))} {
		s, _ := written(d)
		for i := range len(s) + 1 {
			checkParseDefined(t, "cut off", s[:i])
			for j := range len(letters) {
				c := letters[j : j+1]
				checkParseDefined(t, "one more", s[:i]+c+s[i:])
				if i < len(s) {
					checkParseDefined(t, "another", s[:i]+c+s[i+1:])
				}
			}
			if i < len(s) {
				checkParseDefined(t, "one less", s[:i]+s[i+1:])
			}
		}
	}
}

// TestParseAnswersNewMemory: what a call answers is not touched by a later one.
func TestParseAnswersNewMemory(t *testing.T) {
	const s = "lli1ei2ee1:xe"
	first, _ := delta.Parse(s)
	for i := range first {
		first[i] = ins("scribble")
	}
	checkParse(t, "again", s, ops(cp(1, 2), ins("x")), api.OK)
}
