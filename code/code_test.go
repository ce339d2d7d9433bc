package code_test

import (
	"math"
	"strconv"
	"strings"
	"testing"

	"hornbook/api"
	"hornbook/code"
)

func num(n int64) api.Val          { return api.Val{Kind: api.Num, N: n} }
func text(s string) api.Val        { return api.Val{Kind: api.Text, S: s} }
func list(kids ...api.Val) api.Val { return api.Val{Kind: api.List, L: kids} }

// chain is a value of so many levels, v the innermost one.
func chain(v api.Val, levels int) api.Val {
	for range levels - 1 {
		v = list(v)
	}
	return v
}

// row is a list of so many copies of v.
func row(v api.Val, n int) api.Val {
	l := api.Val{Kind: api.List}
	for range n {
		l.L = append(l.L, v)
	}
	return l
}

// same compares values, a nil list counting as an empty one.
func same(a, b api.Val) bool {
	if a.Kind != b.Kind || a.N != b.N || a.S != b.S || len(a.L) != len(b.L) {
		return false
	}
	for i := range a.L {
		if !same(a.L[i], b.L[i]) {
			return false
		}
	}
	return true
}

func zero(v api.Val) bool { return v.Kind == 0 && v.N == 0 && v.S == "" && v.L == nil }

// brief keeps a failure readable when what failed is long.
func brief(s string) string {
	if len(s) <= 60 {
		return strconv.Quote(s)
	}
	return strconv.Quote(s[:60]) + ".. of " + strconv.Itoa(len(s)) + " bytes"
}

// ring is a list that contains itself.
func ring() api.Val {
	v := row(api.Val{Kind: api.List}, 2)
	v.L[1].L = v.L
	return v
}

// doubled unfolds to 2^levels - 1 values, though it is small in memory.
func doubled(levels int) api.Val {
	v := num(1)
	for range levels - 1 {
		v = list(v, v)
	}
	return v
}

// TestRight: P1.1.
func TestRight(t *testing.T) {
	odd := api.Val{Kind: 7}
	for _, x := range []struct {
		name string
		v    api.Val
		want api.Errno
	}{
		{"zero", num(0), api.OK},
		{"greatest", num(math.MaxInt64), api.OK},
		{"least", num(math.MinInt64), api.OK},
		{"text", text("ab"), api.OK},
		{"empty text", text(""), api.OK},
		{"text of any bytes", text("\x00\xff\xfe:e"), api.OK},
		{"text beyond MaxBytes", text(strings.Repeat("a", api.MaxBytes+1)), api.OK},
		{"list", list(num(1), text("a"), list()), api.OK},
		{"empty list that is nil", api.Val{Kind: api.List}, api.OK},
		{"empty list that is not nil", api.Val{Kind: api.List, L: []api.Val{}}, api.OK},
		{"number with an empty list", api.Val{Kind: api.Num, N: 1, L: []api.Val{}}, api.OK},
		{"text with an empty list", api.Val{Kind: api.Text, S: "a", L: []api.Val{}}, api.OK},

		{"nothing", api.Val{}, api.ErrArg},
		{"kind 4", api.Val{Kind: 4}, api.ErrArg},
		{"kind -1", api.Val{Kind: -1}, api.ErrArg},
		{"number with text", api.Val{Kind: api.Num, S: "a"}, api.ErrArg},
		{"number with list", api.Val{Kind: api.Num, L: []api.Val{num(1)}}, api.ErrArg},
		{"text with number", api.Val{Kind: api.Text, N: 1}, api.ErrArg},
		{"text with list", api.Val{Kind: api.Text, L: []api.Val{num(1)}}, api.ErrArg},
		{"list with number", api.Val{Kind: api.List, N: -1}, api.ErrArg},
		{"list with text", api.Val{Kind: api.List, S: "a"}, api.ErrArg},
		{"wrong first element", list(odd, num(1)), api.ErrArg},
		{"wrong last element", list(num(1), odd), api.ErrArg},
		{"wrong element far inside", chain(odd, 30), api.ErrArg},

		{"30 levels", chain(num(1), 30), api.OK},
		{"30 levels of lists", chain(list(), 30), api.OK},
		{"31 levels", chain(num(1), 31), api.ErrDeep},
		{"31 levels of lists", chain(list(), 31), api.ErrDeep},
		{"31 levels, not first", list(num(1), chain(num(1), 30), num(2)), api.ErrDeep},
		{"31 levels, wrong inside", chain(odd, 31), api.ErrDeep},
		{"31 levels, wrong ahead", list(odd, chain(num(1), 30)), api.ErrDeep},
		{"31 levels within a number", api.Val{Kind: api.Num, L: []api.Val{chain(num(1), 30)}}, api.ErrDeep},
		{"31 levels within a text", api.Val{Kind: api.Text, L: []api.Val{chain(num(1), 30)}}, api.ErrDeep},
		{"31 levels within no kind", api.Val{L: []api.Val{chain(num(1), 30)}}, api.ErrDeep},
		{"4000 levels", chain(num(1), 4000), api.ErrDeep},

		{"4000 values", row(num(1), 3999), api.OK},
		{"4001 values", row(num(1), 4000), api.ErrLong},
		{"4000 values in two lists", list(row(num(1), 1998), row(num(1), 1999)), api.OK},
		{"4001 values in two lists", list(row(num(1), 1999), row(num(1), 1999)), api.ErrLong},
		{"4001 values, wrong ones", row(odd, 4000), api.ErrLong},
		{"4000 values, wrong ones", row(odd, 3999), api.ErrArg},
		{"4001 values, too deep", list(chain(num(1), 31), row(num(1), 3968)), api.ErrLong},
		{"4000 values, too deep", list(chain(num(1), 31), row(num(1), 3967)), api.ErrDeep},
		{"4001 values within a text", api.Val{Kind: api.Text, L: row(num(1), 4000).L}, api.ErrLong},
		{"4000 values within a text", api.Val{Kind: api.Text, L: row(num(1), 3999).L}, api.ErrArg},
		{"4001 levels", chain(num(1), 4001), api.ErrLong},
		{"2^60 values", doubled(60), api.ErrLong},
		{"a list that contains itself", ring(), api.ErrLong},
	} {
		if got := code.Right(x.v); got != x.want {
			t.Errorf("%s: Right answers %d, not %d", x.name, got, x.want)
		}
	}
}

// TestPut: P1.2 for values that have an encoding.
func TestPut(t *testing.T) {
	for _, x := range []struct {
		v    api.Val
		want string
	}{
		{num(0), "i0e"},
		{num(7), "i7e"},
		{num(-12), "i-12e"},
		{num(100), "i100e"},
		{num(math.MaxInt64), "i9223372036854775807e"},
		{num(math.MinInt64), "i-9223372036854775808e"},
		{text("ab"), "2:ab"},
		{text(""), "0:"},
		{text("i1e"), "3:i1e"},
		{text("a\x00\xff:"), "4:a\x00\xff:"},
		{text("é"), "2:é"},
		{text(strings.Repeat("x", 10)), "10:xxxxxxxxxx"},
		{list(), "le"},
		{api.Val{Kind: api.List, L: []api.Val{}}, "le"},
		{list(num(1), list()), "li1elee"},
		{list(num(-12), text("ab"), list()), "li-12e2:ablee"},
		{list(list(list(text(""))), num(3)), "lll0:eei3ee"},
		{chain(num(1), 30), strings.Repeat("l", 29) + "i1e" + strings.Repeat("e", 29)},
		{row(text(""), 3999), "l" + strings.Repeat("0:", 3999) + "e"},
	} {
		got, e := code.Put(x.v)
		if e != api.OK || got != x.want {
			t.Errorf("Put answers %s and %d, not %s", brief(got), e, brief(x.want))
		}
	}
}

// TestPutErrors: P1.2 for values that have none: the error of Right ahead of the length.
func TestPutErrors(t *testing.T) {
	big := text(strings.Repeat("a", api.MaxBytes))
	odd := api.Val{Kind: api.Text, N: 1, S: big.S}
	for _, x := range []struct {
		name string
		v    api.Val
		want api.Errno
	}{
		{"nothing", api.Val{}, api.ErrArg},
		{"wrong and too long", odd, api.ErrArg},
		{"wrong within too long", list(big, odd), api.ErrArg},
		{"too deep and too long", list(big, chain(num(1), 30)), api.ErrDeep},
		{"too deep and wrong", chain(odd, 31), api.ErrDeep},
		{"4001 values", row(num(1), 4000), api.ErrLong},
		{"4001 values, too deep", list(chain(num(1), 31), row(num(1), 3968)), api.ErrLong},
		{"too long", big, api.ErrLong},
		{"too long in all", list(text(big.S[:65536]), text(big.S[65536:])), api.ErrLong},
		{"far too long", row(text(strings.Repeat("a", 1<<20)), 3999), api.ErrLong},
		{"too long, then short", list(big, num(1)), api.ErrLong},
		{"a list that contains itself", ring(), api.ErrLong},
		{"2^60 values", doubled(60), api.ErrLong},
	} {
		if got, e := code.Put(x.v); e != x.want || got != "" {
			t.Errorf("%s: Put answers %s and %d, not %d", x.name, brief(got), e, x.want)
		}
	}
}

// TestPutLength: P1.2 at MaxBytes, for an end that is a text's, a number's or a list's.
func TestPutLength(t *testing.T) {
	fill := func(n int) api.Val { return text(strings.Repeat("a", n)) } // n + 7 bytes, for n of six digits
	for _, x := range []struct {
		name string
		v    api.Val
		size int
	}{
		{"text", fill(api.MaxBytes - 8), api.MaxBytes - 1},
		{"text", fill(api.MaxBytes - 7), api.MaxBytes},
		{"text", fill(api.MaxBytes - 6), api.MaxBytes + 1},
		{"list", list(fill(api.MaxBytes - 9)), api.MaxBytes},
		{"list", list(fill(api.MaxBytes - 8)), api.MaxBytes + 1},
		{"number", list(fill(api.MaxBytes-12), num(1)), api.MaxBytes},
		{"number", list(fill(api.MaxBytes-12), num(10)), api.MaxBytes + 1},
		{"empty text", list(fill(api.MaxBytes-11), text("")), api.MaxBytes},
		{"empty text", list(fill(api.MaxBytes-10), text("")), api.MaxBytes + 1},
	} {
		s, e := code.Put(x.v)
		if x.size > api.MaxBytes {
			if e != api.ErrLong || s != "" {
				t.Errorf("%s of %d bytes: Put answers %s and %d", x.name, x.size, brief(s), e)
			}
			continue
		}
		if e != api.OK || len(s) != x.size {
			t.Errorf("%s of %d bytes: Put answers %s and %d", x.name, x.size, brief(s), e)
		}
		if v, e, at := code.Get(s); e != api.OK || at != 0 || !same(v, x.v) {
			t.Errorf("%s of %d bytes: Get answers %d at %d", x.name, x.size, e, at)
		}
	}
}

// TestGet: P1.3 for encodings.
func TestGet(t *testing.T) {
	for _, x := range []struct {
		s    string
		want api.Val
	}{
		{"i0e", num(0)},
		{"i-1e", num(-1)},
		{"i-12e", num(-12)},
		{"i10e", num(10)},
		{"i9223372036854775807e", num(math.MaxInt64)},
		{"i-9223372036854775808e", num(math.MinInt64)},
		{"0:", text("")},
		{"2:ab", text("ab")},
		{"3:i1e", text("i1e")},
		{"10:0123456789", text("0123456789")},
		{"2:\x00\xff", text("\x00\xff")},
		{"le", list()},
		{"li1elee", list(num(1), list())},
		{"l0:0:i0ee", list(text(""), text(""), num(0))},
		{"llleelei-3ee", list(list(list()), list(), num(-3))},
		{strings.Repeat("l", 30) + strings.Repeat("e", 30), chain(list(), 30)},
		{strings.Repeat("l", 29) + "1:a" + strings.Repeat("e", 29), chain(text("a"), 30)},
		{"l" + strings.Repeat("le", 3999) + "e", row(list(), 3999)},
	} {
		if v, e, at := code.Get(x.s); e != api.OK || at != 0 || !same(v, x.want) {
			t.Errorf("Get(%s) answers %v, %d at %d", brief(x.s), v, e, at)
		}
	}
}

type fault struct {
	s    string
	want api.Errno
	at   int
}

func checkFaults(t *testing.T, l []fault) {
	t.Helper()
	for _, x := range l {
		if v, e, at := code.Get(x.s); e != x.want || at != x.at || !zero(v) {
			t.Errorf("Get(%s) answers %v, %d at %d, not %d at %d", brief(x.s), v, e, at, x.want, x.at)
		}
	}
}

// TestGetByte: P1.3, bytes that cannot be where they are.
func TestGetByte(t *testing.T) {
	checkFaults(t, []fault{
		{"x", api.ErrByte, 0},
		{"e", api.ErrByte, 0},
		{"-1", api.ErrByte, 0},
		{":", api.ErrByte, 0},
		{" i1e", api.ErrByte, 0},
		{"\xff", api.ErrByte, 0},
		{"/:", api.ErrByte, 0},
		{"I1e", api.ErrByte, 0},

		{"ie", api.ErrByte, 1},
		{"i-e", api.ErrByte, 2},
		{"i--1e", api.ErrByte, 2},
		{"i+1e", api.ErrByte, 1},
		{"i01e", api.ErrByte, 2},
		{"i00e", api.ErrByte, 2},
		{"i-0e", api.ErrByte, 2},
		{"i-01e", api.ErrByte, 2},
		{"i1-e", api.ErrByte, 2},
		{"i1:", api.ErrByte, 2},
		{"i1 e", api.ErrByte, 2},
		{"i:e", api.ErrByte, 1},
		{"i/e", api.ErrByte, 1},
		{"i9223372036854775808e", api.ErrByte, 19},
		{"i9223372036854775808", api.ErrByte, 19},
		{"i9223372036854775810e", api.ErrByte, 19},
		{"i9223372036854775809e", api.ErrByte, 19},
		{"i92233720368547758070e", api.ErrByte, 20},
		{"i10000000000000000000e", api.ErrByte, 20},
		{"i99999999999999999999e", api.ErrByte, 19},
		{"i18446744073709551616e", api.ErrByte, 20},
		{"i-9223372036854775809e", api.ErrByte, 20},
		{"i-92233720368547758080e", api.ErrByte, 21},
		{"i-18446744073709551616e", api.ErrByte, 21},

		{"01:a", api.ErrByte, 1},
		{"00:", api.ErrByte, 1},
		{"1e", api.ErrByte, 1},
		{"0e", api.ErrByte, 1},
		{"2-:ab", api.ErrByte, 1},
		{"1;a", api.ErrByte, 1},
		{"131073:", api.ErrByte, 5},
		{"131080:", api.ErrByte, 5},
		{"1310720:", api.ErrByte, 6},
		{"200000:", api.ErrByte, 5},
		{"99999999999999999999999:", api.ErrByte, 5},

		{"i1ex", api.ErrByte, 3},
		{"i1ei1e", api.ErrByte, 3},
		{"i1ee", api.ErrByte, 3},
		{"2:abc", api.ErrByte, 4},
		{"0:0:", api.ErrByte, 2},
		{"lee", api.ErrByte, 2},
		{"lele", api.ErrByte, 2},
		{"le\x00", api.ErrByte, 2},

		{"lx", api.ErrByte, 1},
		{"l-1e", api.ErrByte, 1},
		{"li1e-e", api.ErrByte, 4},
		{"li01ee", api.ErrByte, 3},
		{"l1:a02:aae", api.ErrByte, 5},
		{"lxi01e", api.ErrByte, 1},
	})
}

// TestGetEnd: P1.3, texts that end too early.
func TestGetEnd(t *testing.T) {
	for _, s := range []string{
		"", "i", "i-", "i0", "i1", "i-1", "i9223372036854775807", "i-9223372036854775808",
		"0", "1", "3:", "3:ab", "131072", "131072:", "131072:" + strings.Repeat("a", api.MaxBytes-7),
		"l", "ll", "lle", "li1e", "li1", "l2:", "l2:a", "l2:ab", "l0:", strings.Repeat("l", 30), strings.Repeat("l", 30) + "e",
		"l" + strings.Repeat("0:", 3999),
	} {
		checkFaults(t, []fault{{s, api.ErrEnd, len(s)}})
	}
}

// TestGetDeep: P1.3, 31 levels; ErrByte goes ahead of ErrDeep.
func TestGetDeep(t *testing.T) {
	l30 := strings.Repeat("l", 30)
	checkFaults(t, []fault{
		{l30 + "l", api.ErrDeep, 30},
		{l30 + "i", api.ErrDeep, 30},
		{l30 + "i01e", api.ErrDeep, 30},
		{l30 + "0", api.ErrDeep, 30},
		{l30 + "9:", api.ErrDeep, 30},
		{l30 + "l" + strings.Repeat("e", 31), api.ErrDeep, 30},
		{"li1e" + l30[1:] + "i1e", api.ErrDeep, 33},
		{l30 + "eli1e", api.ErrDeep, 32},
		{l30 + "x", api.ErrByte, 30},
		{l30 + "-", api.ErrByte, 30},
		{l30 + ":", api.ErrByte, 30},
		{l30 + strings.Repeat("e", 30) + "l", api.ErrByte, 60},
	})
}

// TestGetLong: P1.3, 4001 values, and what goes ahead of ErrLong at the same byte.
func TestGetLong(t *testing.T) {
	full := "l" + strings.Repeat("0:", 3999) // 4000 values
	// 4000 values, with 30 lists open behind them: what begins there is too deep and too many at once.
	deep := "l" + strings.Repeat("0:", 3970) + strings.Repeat("l", 29)
	// As before, but one value less.
	less := "l" + strings.Repeat("0:", 3969) + strings.Repeat("l", 29)
	checkFaults(t, []fault{
		{full + "i1ee", api.ErrLong, len(full)},
		{full + "i01ee", api.ErrLong, len(full)},
		{full + "0:e", api.ErrLong, len(full)},
		{full + "le", api.ErrLong, len(full)},
		{full + "l", api.ErrLong, len(full)},
		{full + "x", api.ErrByte, len(full)},
		{full + "-", api.ErrByte, len(full)},
		{full + "ei1e", api.ErrByte, len(full) + 1},
		{deep + "i1e", api.ErrDeep, len(deep)},
		{deep + "l", api.ErrDeep, len(deep)},
		{deep + "0", api.ErrDeep, len(deep)},
		{deep + "x", api.ErrByte, len(deep)},
		{deep + "ei1e", api.ErrLong, len(deep) + 1},
		{deep + "e", api.ErrEnd, len(deep) + 1},
		{less + "ei1e", api.ErrEnd, len(less) + 4},
		{less + "ei1ei2e", api.ErrLong, len(less) + 4},
		{less + "ei1ex", api.ErrByte, len(less) + 4},
	})
}

// TestGetBytes: P1.3, strings of MaxBytes bytes and beyond.
func TestGetBytes(t *testing.T) {
	most := "131065:" + strings.Repeat("a", 131065)
	if v, e, at := code.Get(most); e != api.OK || at != 0 || len(v.S) != 131065 {
		t.Errorf("Get answers %d at %d for MaxBytes bytes", e, at)
	}
	checkFaults(t, []fault{
		{"x" + strings.Repeat("a", api.MaxBytes-1), api.ErrByte, 0},
		{"x" + strings.Repeat("a", api.MaxBytes), api.ErrLong, 0},
		{most + "x", api.ErrLong, 0},
		{"131066:" + strings.Repeat("a", 131066), api.ErrLong, 0},
		{"131066:" + strings.Repeat("a", 131065), api.ErrEnd, api.MaxBytes},
		{strings.Repeat("l", api.MaxBytes), api.ErrDeep, 30},
		{strings.Repeat("l", api.MaxBytes+1), api.ErrLong, 0},
	})
}

// TestGivenIsKept: a list that is handed in is as it was (R4).
func TestGivenIsKept(t *testing.T) {
	v := list(num(1), list(text("a")), text("b"))
	code.Right(v)
	code.Put(v)
	if !same(v, list(num(1), list(text("a")), text("b"))) {
		t.Error(v)
	}
}
