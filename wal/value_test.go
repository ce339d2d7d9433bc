package wal_test

import (
	"math"
	"slices"
	"strconv"
	"strings"
	"testing"

	"hornbook/api"
)

// TestWritten: P14.1 with the encodings written out; Get reads them.
func TestWritten(t *testing.T) {
	for _, x := range []struct {
		h    api.Hard
		want string
	}{
		{api.Hard{}, "li0ei0ei0ei0e0:lelee"},
		{state(1, 2, log(0, 0), ""), "li1ei2ei0ei0e0:lelee"},
		{state(3, 0, log(0, 0), ""), "li3ei0ei0ei0e0:lelee"},
		{api.Hard{Log: api.Log{Records: []api.Record{}}, Voters: []int{}}, "li0ei0ei0ei0e0:lelee"},
		{state(0, 9, log(0, 0), "ab"), "li0ei9ei0ei0e2:ablelee"},
		{state(4, 0, log(12, 3), "", 1), "li4ei0ei12ei3e0:li1eelee"},
		{state(4, 0, log(12, 3), "snap", 2, 5, 9), "li4ei0ei12ei3e4:snapli2ei5ei9eelee"},
		{state(1, 0, log(0, 0, record(1, 0, "")), ""), "li1ei0ei0ei0e0:lelli1ei0e0:eee"},
		{state(7, 1, log(0, 0, record(1, 2, "x"), record(7, 1, "yz")), ""), "li7ei1ei0ei0e0:lelli1ei2e1:xeli7ei1e2:yzeee"},
		{state(7, 1, log(2, 7, record(7, 1, "i0e")), "e", 1, 2), "li7ei1ei2ei7e1:eli1ei2eelli7ei1e3:i0eeee"},
		{state(top, 9, log(top, top), "\x00\xff", 1, 2, 3, 4, 5, 6, 7), "li1073741824ei9ei1073741824ei1073741824e2:\x00\xffli1ei2ei3ei4ei5ei6ei7eelee"},
		{state(12, 0, log(10, 11), letters(12)), "li12ei0ei10ei11e12:xxxxxxxxxxxxlelee"},
	} {
		checkRight(t, "written out", x.h, true)
		checkPut(t, "written out", x.h, x.want, api.OK)
		checkGet(t, "written out", x.want, x.h, api.OK)
	}
}

// TestGetNoValues: P14.1 for strings that are the encoding of no value: the error of code.Get.
func TestGetNoValues(t *testing.T) {
	for _, x := range []struct {
		s    string
		want api.Errno
	}{
		{"", api.ErrEnd},
		{"l", api.ErrEnd},
		{"li0ei0ei0ei0e0:lele", api.ErrEnd},
		{"li0ei0ei0ei0e5:lelee", api.ErrEnd},
		{"li9ei9", api.ErrEnd},
		{"x", api.ErrByte},
		{"e", api.ErrByte},
		{"li0ei0ei0ei0e0:leleex", api.ErrByte},
		{"li0ei0ei0ei0e0:leleee", api.ErrByte},
		{"li0ei0ei0ei0e0:lelee ", api.ErrByte},
		{"li0ei0ei0ei0e0:leleeli0ei0ei0ei0e0:lelee", api.ErrByte},
		{"li01ei0ei0ei0e0:lelee", api.ErrByte},
		{"li-0ei0ei0ei0e0:lelee", api.ErrByte},
		{"li9223372036854775808ei0ei0ei0e0:lelee", api.ErrByte},
		{"i0ex", api.ErrByte},
		{strings.Repeat("l", 31) + strings.Repeat("e", 31), api.ErrDeep},
		{"li0ei0ei0ei0e0:lel" + strings.Repeat("l", 29) + strings.Repeat("e", 31), api.ErrDeep},
		{"l" + strings.Repeat("0:", 4000) + "e", api.ErrLong},
		{"li0ei0ei0ei0e0:lel" + strings.Repeat("le", 4000) + "ee", api.ErrLong},
		{letters(131073), api.ErrLong},
		{letters(131072), api.ErrByte},
		{writtenState(sized(t, 3, 131072)) + "e", api.ErrLong},
		{writtenState(sized(t, 3, 131071)) + "e", api.ErrByte},
		{writtenState(sized(t, 3, 131072))[:131071], api.ErrEnd},
	} {
		checkGet(t, "no value", x.s, api.Hard{}, x.want)
	}
}

// TestGetCutOff: P14.1 for encodings that end too early, at each byte.
func TestGetCutOff(t *testing.T) {
	s := writtenState(state(12, 1, log(3, 2, some(3, 2)...), "snap", 1, 2, 3))
	for n := range s {
		checkGet(t, "cut off", s[:n], api.Hard{}, api.ErrEnd)
	}
}

// parts is the encodings of what a state is a list of.
func parts() []string { return []string{"i4e", "i2e", "i3e", "i1e", "1:s", "li1ei2ee", "lli1ei0e0:ee"} }

func listOf(l []string) string { return "l" + strings.Join(l, "") + "e" }

// TestGetWrongParts: P14.1 for values that have something else in the place of a part, or too few parts, or too many.
func TestGetWrongParts(t *testing.T) {
	checkGet(t, "the parts", listOf(parts()), state(4, 2, log(3, 1, record(1, 0, "")), "s", 1, 2), api.OK)
	others := []string{"i-1e", "1:1", "0:", "le", "3:i1e", "li1ee", "li0ei0e0:e", "lle0:e"}
	for _, other := range append(others, "i0e", "lli1ei0e0:ee") {
		checkGet(t, "no list of parts", other, api.Hard{}, api.ErrArg)
		for i := range parts() {
			checkGetDefined(t, "another part", listOf(with(parts(), i, other)))
			checkGet(t, "one more", listOf(slices.Insert(parts(), i, other)), api.Hard{}, api.ErrArg)
		}
		checkGet(t, "one more", listOf(append(parts(), other)), api.Hard{}, api.ErrArg)
	}
	for i, part := range parts() {
		checkGet(t, "too few", listOf(parts()[:i]), api.Hard{}, api.ErrArg)
		checkGet(t, "one less", listOf(slices.Delete(parts(), i, i+1)), api.Hard{}, api.ErrArg)
		checkGet(t, "one twice", listOf(slices.Insert(parts(), i, part)), api.Hard{}, api.ErrArg)
		for j := range i {
			checkGetDefined(t, "out of order", listOf(with(with(parts(), i, parts()[j]), j, part)))
		}
	}
	for i := range 4 {
		for _, other := range others {
			checkGet(t, "no number", listOf(with(parts(), i, other)), api.Hard{}, api.ErrArg)
		}
	}
	for _, other := range []string{"i0e", "i1e", "le", "l1:se", "li1ee"} {
		checkGet(t, "no Snap", listOf(with(parts(), 4, other)), api.Hard{}, api.ErrArg)
	}
	for _, other := range []string{"i0e", "i1e", "0:", "2:le", "1:1"} {
		checkGet(t, "no voters", listOf(with(parts(), 5, other)), api.Hard{}, api.ErrArg)
		checkGet(t, "no records", listOf(with(parts(), 6, other)), api.Hard{}, api.ErrArg)
	}
	checkGet(t, "a list around it", listOf([]string{listOf(parts())}), api.Hard{}, api.ErrArg)
}

// with is parts of which one is another.
func with(l []string, i int, part string) []string {
	l = slices.Clone(l)
	l[i] = part
	return l
}

// TestGetWrongLists: P14.1 for voters and records that have something else in the place of a part.
func TestGetWrongLists(t *testing.T) {
	listing := func(voters, records string) string { return "li4ei2ei3ei1e1:s" + voters + records + "e" }
	for _, voters := range []string{"i1e", "1:1", "l1:1e", "llee", "lli1eee", "li1e1:2e", "l0:i1ee", "li0ee", "li10ee", "li2ei1ee", "li1ei1ee", "li-1ee", "li4294967297ee", "0:", "li1ei2ei3ei4ei5ei6ei7ei8ee"} {
		checkGet(t, "voters", listing(voters, "le"), api.Hard{}, api.ErrArg)
	}
	for _, records := range []string{
		"i0e", "0:", "2:le", "li1ee", "l0:e", "llee", "li1ei0e0:e",
		"lli1ei0eee", "lli1e0:ee", "lli1ei0e0:0:ee", "lli1ei0e0:i0eee", "lli1ei0ei0eee", "lli1ei0eleee", "lli1e1:00:ee", "ll1:1i0e0:ee", "lllei0e0:ee", "lli1ele0:ee", "l" + "lli1ei0e0:ee" + "e",
		"lli0ei0e0:ee", "lli5ei0e0:ee", "lli-1ei0e0:ee", "lli1ei3e0:ee", "lli1ei-1e0:ee", "lli4294967297ei0e0:ee", "lli1ei4294967296e0:ee", "lli1ei0e8193:" + letters(8193) + "ee",
		"lli2ei0e0:eli1ei0e0:ee", "lli1ei0e0:ei0ee", "lli1ei0e0:e0:e", "lli1ei0e0:elee",
	} {
		checkGet(t, "records", listing("le", records), api.Hard{}, api.ErrArg)
		checkGet(t, "records", listing("li1ei2ee", records), api.Hard{}, api.ErrArg)
	}
	checkGet(t, "none of both", listing("le", "le"), state(4, 2, log(3, 1), "s"), api.OK)
	checkGet(t, "many records", listing("le", "l"+strings.Repeat("li1ei0e0:e", 200)+"e"), state(4, 2, log(3, 1, repeated(200)...), "s"), api.OK)
	checkGet(t, "too many records", listing("le", "l"+strings.Repeat("li1ei0e0:e", 201)+"e"), api.Hard{}, api.ErrArg)
	checkGet(t, "a Text among the numbers", "l1:4i2ei3ei1e1:slelee", api.Hard{}, api.ErrArg)
}

// repeated is so many records that are the same.
func repeated(n int) []api.Record {
	l := make([]api.Record, n)
	for i := range l {
		l[i] = record(1, 0, "")
	}
	return l
}

// TestGetNumbers: P14.1 for numbers out of range in each place, also such as no int of 32 bits can be.
func TestGetNumbers(t *testing.T) {
	numbers := []int64{math.MinInt64, math.MinInt64 + 1, -1 << 32, 1<<32 - top, -top, -1, top + 1, math.MaxInt32, math.MaxUint32, 1 << 32, 1<<32 + 1, 1<<32 + 2, 1<<62 + 1, math.MaxInt64 - 1, math.MaxInt64}
	for _, n := range numbers {
		for i := range 4 {
			checkGet(t, "a number", listOf(with(parts(), i, "i"+strconv.FormatInt(n, 10)+"e")), api.Hard{}, api.ErrArg)
		}
	}
	for _, n := range []int64{0, 1, 2, 3, 4, 5, 8, 9, 10, 11, top - 1, top} {
		for i := range 4 {
			checkGetDefined(t, "a number", listOf(with(parts(), i, "i"+strconv.FormatInt(n, 10)+"e")))
		}
	}
}
