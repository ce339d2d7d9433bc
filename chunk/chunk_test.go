package chunk_test

import (
	"slices"
	"strconv"
	"strings"
	"testing"

	"hornbook/chunk"
)

// zeros is a string of which no chunk ends by its weight: the weight of 16 zero bytes is a multiple of 64.
func zeros(n int) string { return strings.Repeat("\x00", n) }

// some is a string of so many bytes that do not repeat soon.
func some(n int) string {
	b := make([]byte, n)
	x := uint32(n + 1)
	for i := range b {
		x = x*1664525 + 1013904223
		b[i] = byte(x >> 24)
	}
	return string(b)
}

// brief keeps a failure readable when what failed is long.
func brief(s string) string {
	if len(s) <= 60 {
		return strconv.Quote(s)
	}
	return strconv.Quote(s[:60]) + ".. of " + strconv.Itoa(len(s)) + " bytes"
}

// slowWeight takes the definition word by word, modulo 2^32 by division: no term and no sum of 16 of them passes 64 bits.
func slowWeight(s string) uint32 {
	sum, power := uint64(0), uint64(1)
	for j := 0; j < 16 && j < len(s); j++ {
		sum += (uint64(s[len(s)-1-j]) + 1) * power
		power = power * 31 % (1 << 32)
	}
	return uint32(sum % (1 << 32))
}

func checkWeight(t *testing.T, s string, want uint32) {
	t.Helper()
	if got := chunk.Weight(s); got != want {
		t.Errorf("Weight(%s) is %d, not %d", brief(s), got, want)
	}
}

// checkCuts looks at Cuts, and at Texts, which are what is between them.
func checkCuts(t *testing.T, name, s string, want ...int) {
	t.Helper()
	if got := chunk.Cuts(s); !slices.Equal(got, want) {
		t.Errorf("%s: Cuts(%s) is %v, not %v", name, brief(s), got, want)
	}
	var texts []string
	from := 0
	for _, end := range want {
		texts = append(texts, s[from:end])
		from = end
	}
	if got := chunk.Texts(s); !slices.Equal(got, texts) {
		t.Errorf("%s: Texts(%s) is %q, not %q", name, brief(s), got, texts)
	}
}

// TestWeight: P4.1, weights that are known.
func TestWeight(t *testing.T) {
	for _, x := range []struct {
		s    string
		want uint32
	}{
		{"", 0},
		{"a", 98},
		{"ab", 3137},
		{"ba", 3167},
		{"\x00", 1},
		{"\x00\x00", 32},
		{"\xff", 256},
		{"\xff\x80\x00", 250016},
		{"ä", 6241},
		{"hornbook", 2325579628},
		{"für alle Übersetzungen", 1273669092},
		{"abcdefghijklmn", 283007431},
		{"abcdefghijklmno", 183295881},
		{"abcdefghijklmnop", 1387205128},
		{"abcdefghijklmnopq", 573321992},
		{zeros(15), 3991618337},
		{zeros(16), 3481084160},
		{zeros(17), 3481084160},
		{strings.Repeat("\xff", 15), 3947045120},
		{strings.Repeat("\xff", 16), 2099314688},
		{strings.Repeat("\xff", 17), 2099314688},
	} {
		checkWeight(t, x.s, x.want)
	}
}

// TestWeightWraps: P4.1 for sums around 2^31, 2^32 and 2^33.
func TestWeightWraps(t *testing.T) {
	checkWeight(t, "\x49\x1e\x08\x1d\x0b\x00", 1<<31-1)
	checkWeight(t, "\x49\x1e\x08\x1d\x0b\x01", 1<<31)
	checkWeight(t, "\x94\x1e\x12\x1c\x17\x02", 1<<32-1)
	checkWeight(t, "\x94\x1e\x12\x1c\x17\x03", 0)
	checkWeight(t, "\x94\x1e\x12\x1c\x17\x04", 1)
	checkWeight(t, "\x08\x14\x00\x07\x1b\x10\x0e", 7)
	checkWeight(t, strings.Repeat("\xff", 5), 244302080)
	checkWeight(t, strings.Repeat("\xff", 6), 7573364736-1<<32)
}

// TestWeightAsDefined: P4.1 against the definition, for strings shorter and longer than 16 bytes.
func TestWeightAsDefined(t *testing.T) {
	for n := range 100 {
		for _, s := range []string{some(n), zeros(n), strings.Repeat("\xff", n), "\xff" + zeros(n), zeros(n) + "\xff"} {
			checkWeight(t, s, slowWeight(s))
		}
	}
	for _, n := range []int{511, 512, 513, 4096, 1 << 20} {
		checkWeight(t, some(n), slowWeight(some(n)))
	}
}

// TestWeightWindow: P4.1: each of the last 16 bytes tells, and none ahead of them does.
func TestWeightWindow(t *testing.T) {
	for n := range 50 {
		s := some(n)
		for at := range n {
			b := []byte(s)
			b[at] ^= 0x55
			same := chunk.Weight(string(b)) == chunk.Weight(s)
			if same != (at < n-16) {
				t.Errorf("of %d bytes, another one at %d: the weights are the same: %t", n, at, same)
			}
		}
	}
}

// TestCutsShort: P4.1 for strings that end ahead of any other end.
func TestCutsShort(t *testing.T) {
	checkCuts(t, "the empty string", "")
	checkCuts(t, "abc", "abc", 3)
	for n := 1; n < 32; n++ {
		checkCuts(t, "zero bytes", zeros(n), n)
		checkCuts(t, "any bytes", some(n), n)
		checkCuts(t, "a weight of 7 too early", zeros(n-1)+"\x07", n)
	}
	// One byte whose weight is 7.
	checkCuts(t, "one byte", "\x06", 1)
	checkWeight(t, "\x06", 7)
}

// TestCutsByLength: P4.1 where no weight ends a chunk.
func TestCutsByLength(t *testing.T) {
	for _, x := range []struct {
		n    int
		cuts []int
	}{
		{31, []int{31}},
		{32, []int{32}},
		{33, []int{33}},
		{64, []int{64}},
		{511, []int{511}},
		{512, []int{512}},
		{513, []int{512, 513}},
		{543, []int{512, 543}},
		{544, []int{512, 544}},
		{1023, []int{512, 1023}},
		{1024, []int{512, 1024}},
		{1025, []int{512, 1024, 1025}},
		{1100, []int{512, 1024, 1100}},
	} {
		checkCuts(t, "zero bytes", zeros(x.n), x.cuts...)
		// By 64, the weight is that of zero bytes.
		checkCuts(t, "bytes of 64", strings.Repeat("\x40", x.n), x.cuts...)
		checkCuts(t, "bytes of 192", strings.Repeat("\xc0", x.n), x.cuts...)
	}
}

// TestCutsByWeight: P4.1 where a byte behind zero bytes makes the weight 7 by 64.
func TestCutsByWeight(t *testing.T) {
	for _, x := range []struct {
		name, s string
		cuts    []int
	}{
		{"at 32", zeros(31) + "\x07" + zeros(10), []int{32, 42}},
		{"at 32, and no more", zeros(31) + "\x07", []int{32}},
		{"at 32, and one byte", zeros(31) + "\x07x", []int{32, 33}},
		{"at 32, by 71", zeros(31) + "\x47" + zeros(10), []int{32, 42}},
		{"at 32, by 135", zeros(31) + "\x87" + zeros(10), []int{32, 42}},
		{"at 32, by 199", zeros(31) + "\xc7" + zeros(10), []int{32, 42}},
		{"not by 6", zeros(31) + "\x06" + zeros(10), []int{42}},
		{"not by 8", zeros(31) + "\x08" + zeros(10), []int{42}},
		{"not by 39, which is 7 by 32", zeros(31) + "\x27" + zeros(10), []int{42}},
		// The byte's factor is 31^j, which is 1 by 64 for each even j.
		{"too early at 31, so at 33", zeros(30) + "\x07" + zeros(10), []int{33, 41}},
		{"too early at 30, so at 32", zeros(29) + "\x07" + zeros(10), []int{32, 40}},
		{"too early at 17, and gone at 33", zeros(16) + "\x07" + zeros(30), []int{47}},
		{"too early at 18, so at 32", zeros(17) + "\x07" + zeros(30), []int{32, 48}},
		{"at 33", zeros(32) + "\x07" + zeros(10), []int{33, 43}},
		{"at 100", zeros(99) + "\x07" + zeros(900), []int{100, 612, 1000}},
		{"at 510", zeros(509) + "\x07" + zeros(10), []int{510, 520}},
		{"at 511", zeros(510) + "\x07" + zeros(10), []int{511, 521}},
		{"at 512, by both", zeros(511) + "\x07" + zeros(10), []int{512, 522}},
		{"too late", zeros(512) + "\x07" + zeros(10), []int{512, 523}},
		{"three times", strings.Repeat(zeros(31)+"\x07", 3), []int{32, 64, 96}},
		{"once by weight, once by length", zeros(39) + "\x07" + zeros(512), []int{40, 552}},
		{"once by length, once by weight", zeros(512) + zeros(39) + "\x07", []int{512, 552}},
	} {
		checkCuts(t, x.name, x.s, x.cuts...)
	}
}

// TestCutsInBytes: P4.1: offsets count bytes, whatever characters they are parts of, and bytes that are parts of none.
func TestCutsInBytes(t *testing.T) {
	checkCuts(t, "two bytes a character", strings.Repeat("ä", 15), 30)
	checkCuts(t, "four bytes a character", "🙂", 4)
	checkCuts(t, "bytes that are no characters", "\xff\xfe\x80\xc3", 4)
	// 48 zero bytes, but that the last of these is 199, the first byte of a character of two: the cut parts them.
	checkCuts(t, "through a character", zeros(47)+"ǀ", 48, 49)
}

// TestAnswersApart: R1 and R4: who changes an answer changes no other one.
func TestAnswersApart(t *testing.T) {
	s := some(2000)
	cuts, texts := chunk.Cuts(s), chunk.Texts(s)
	oldCuts, oldTexts := slices.Clone(cuts), slices.Clone(texts)
	for i := range cuts {
		cuts[i], texts[i] = -1, "changed"
	}
	if !slices.Equal(chunk.Cuts(s), oldCuts) || !slices.Equal(chunk.Texts(s), oldTexts) || s != some(2000) {
		t.Error("an answer that was changed tells in the next one")
	}
}
