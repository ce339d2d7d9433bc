package digest_test

import (
	"crypto/sha256"
	"encoding/hex"
	"strconv"
	"strings"
	"testing"

	"hornbook/api"
	"hornbook/digest"
)

const (
	ofEmpty = "e3b0c44298fc1c149afbf4c8996fb92427ae41e4649b934ca495991b7852b855"
	ofAbc   = "ba7816bf8f01cfea414140de5dae2223b00361a396177a9cb410ff61f20015ad"
)

// library is the digest as the library of the language works it out.
func library(s string) string {
	d := sha256.Sum256([]byte(s))
	return string(d[:])
}

// some is a string of so many bytes that do not repeat soon.
func some(n int) string {
	b := make([]byte, n)
	x := uint32(n + 1)
	for i := range b {
		x = x*1664525 + 1013904223
		b[i] = byte(x >> 24)
	}
	return string(b)
}

// brief keeps a failure readable when what failed is long.
func brief(s string) string {
	if len(s) <= 70 {
		return strconv.Quote(s)
	}
	return strconv.Quote(s[:70]) + ".. of " + strconv.Itoa(len(s)) + " bytes"
}

func checkOf(t *testing.T, s, want string) {
	t.Helper()
	if got := digest.Of(s); got != want {
		t.Errorf("Of(%s) is %x, not %x", brief(s), got, want)
	}
}

// TestOf: P3.1, the chapter's examples, those of FIPS 180-2, B.1 to B.3, and others that are known.
func TestOf(t *testing.T) {
	for _, x := range []struct{ s, want string }{
		{"", ofEmpty},
		{"abc", ofAbc},
		{"abcdbcdecdefdefgefghfghighijhijkijkljklmklmnlmnomnopnopq", "248d6a61d20638b8e5c026930c3e6039a33ce45964ff2167f6ecedd419db06c1"},
		{strings.Repeat("a", 1000000), "cdc76e5c9914fb9281a1c7e284d73e67f1809a48a497200e046d39ccc7112cd0"},
		{"a", "ca978112ca1bbdcafac231b39a23dc4da786eff8147c4e72b9807785afee48bb"},
		{"\x00", "6e340b9cffb37a989ca544e6bb780a2c78901d3fb33738768511a30617afa01d"},
		{"The quick brown fox jumps over the lazy dog", "d7a8fbb307d7809469ca9abcb0082e4f8d5651e46d3cdb762d02d0bf37c9e592"},
		{"abcdefghbcdefghicdefghijdefghijkefghijklfghijklmghijklmnhijklmnoijklmnopjklmnopqklmnopqrlmnopqrsmnopqrstnopqrstu", "cf5b16a778af8380036ce59e7b0492370b249b11e8f07a51afac45037afee9d1"},
	} {
		want, err := hex.DecodeString(x.want)
		if err != nil {
			t.Fatal(err)
		}
		checkOf(t, x.s, string(want))
	}
}

// TestOfLengths: P3.1 for every length up to some blocks, and so for those at which the padding takes a further one; of bytes that differ and of bytes that the padding is made of.
func TestOfLengths(t *testing.T) {
	for n := range 600 {
		for _, s := range []string{some(n), strings.Repeat("\x00", n), strings.Repeat("\x80", n), strings.Repeat("\xff", n)} {
			checkOf(t, s, library(s))
		}
	}
	for _, n := range []int{4095, 4096, 65535, 65536, 1<<21 + 55, 1<<21 + 56} {
		checkOf(t, some(n), library(some(n)))
	}
}

// TestOfBytes: P3.1 for every byte and every pair of bytes, UTF-8 or not.
func TestOfBytes(t *testing.T) {
	for a := range 256 {
		s := string([]byte{byte(a)})
		checkOf(t, s, library(s))
		for b := range 256 {
			s := string([]byte{byte(a), byte(b)})
			checkOf(t, s, library(s))
		}
	}
}

// TestOfNoPadding: P3.1: a string that ends as its padding would has a digest of its own.
func TestOfNoPadding(t *testing.T) {
	for n := range 130 {
		s := some(n)
		for _, longer := range []string{s + "\x80", s + "\x00", padded(s)} {
			checkOf(t, longer, library(longer))
			if digest.Of(longer) == digest.Of(s) {
				t.Errorf("%s and %s have one digest", brief(s), brief(longer))
			}
		}
	}
}

// TestHex: P3.2, each byte, and strings of any length.
func TestHex(t *testing.T) {
	for _, x := range []struct{ s, want string }{
		{"", ""},
		{"\x00", "00"},
		{"\x01", "01"},
		{"\x10", "10"},
		{"\x9a", "9a"},
		{"\xff", "ff"},
		{"abc", "616263"},
		{"\x01\x23\x45\x67\x89\xab\xcd\xef", "0123456789abcdef"},
		{"ä", "c3a4"},
		{"\xef\xbf\xbd\xff", "efbfbdff"},
	} {
		if got := digest.Hex(x.s); got != x.want {
			t.Errorf("Hex(%s) is %s, not %s", brief(x.s), got, x.want)
		}
	}
	for c := range 256 {
		s := string([]byte{byte(c)})
		if got := digest.Hex(s); got != hex.EncodeToString([]byte(s)) {
			t.Errorf("Hex(%s) is %s", brief(s), got)
		}
	}
	for _, n := range []int{2, 31, 32, 33, 64, 1000, 1 << 20} {
		if got := digest.Hex(some(n)); got != hex.EncodeToString([]byte(some(n))) {
			t.Errorf("Hex of %d bytes is %s", n, brief(got))
		}
	}
}

func checkParse(t *testing.T, s, want string, wantErr api.Errno) {
	t.Helper()
	if got, e := digest.Parse(s); got != want || e != wantErr {
		t.Errorf("Parse(%s) answers %x, %d, not %x, %d", brief(s), got, e, want, wantErr)
	}
}

// TestParse: P3.2, digits of digests, there and back.
func TestParse(t *testing.T) {
	checkParse(t, ofAbc, library("abc"), api.OK)
	checkParse(t, ofEmpty, library(""), api.OK)
	checkParse(t, strings.Repeat("0", 64), strings.Repeat("\x00", 32), api.OK)
	checkParse(t, strings.Repeat("f", 64), strings.Repeat("\xff", 32), api.OK)
	checkParse(t, strings.Repeat("0f", 32), strings.Repeat("\x0f", 32), api.OK)
	checkParse(t, strings.Repeat("f0", 32), strings.Repeat("\xf0", 32), api.OK)
	checkParse(t, strings.Repeat("0123456789abcdef", 4), strings.Repeat("\x01\x23\x45\x67\x89\xab\xcd\xef", 4), api.OK)
	for n := range 300 {
		d := digest.Of(some(n))
		checkParse(t, digest.Hex(d), d, api.OK)
	}
	for c := range 256 {
		// Any 32 bytes count, though no string with that digest may be known.
		d := strings.Repeat(string([]byte{byte(c)}), 32)
		checkParse(t, digest.Hex(d), d, api.OK)
	}
}

// TestParseLengths: P3.2: digits alone, but not 64 of them.
func TestParseLengths(t *testing.T) {
	digits := strings.Repeat(ofAbc, 4)
	for n := range len(digits) {
		if n != 64 {
			checkParse(t, digits[:n], "", api.ErrHex)
		}
	}
	for _, n := range []int{31, 33, 64, 1 << 16} {
		checkParse(t, digest.Hex(some(n)), "", api.ErrHex)
	}
}

// TestParseBytes: P3.2: each byte at each place; the digits alone may stand there.
func TestParseBytes(t *testing.T) {
	for at := range 64 {
		for c := range 256 {
			s := ofAbc[:at] + string([]byte{byte(c)}) + ofAbc[at+1:]
			if c >= '0' && c <= '9' || c >= 'a' && c <= 'f' {
				want, _ := hex.DecodeString(s)
				checkParse(t, s, string(want), api.OK)
			} else {
				checkParse(t, s, "", api.ErrHex)
			}
		}
	}
}

// TestParseWrong: P3.2: what is like a digest's digits and is not.
func TestParseWrong(t *testing.T) {
	for _, s := range []string{
		"AB",
		"",
		"ab",
		strings.ToUpper(ofAbc),
		ofAbc[:63] + "D",
		"0x" + ofAbc[2:],
		"0x" + ofAbc,
		" " + ofAbc,
		ofAbc + " ",
		ofAbc + "\n",
		ofAbc[:63] + "\n",
		ofAbc[:63] + "\x00",
		"+" + ofAbc[1:],
		"-" + ofAbc[1:],
		ofAbc[:31] + "_" + ofAbc[32:],
		library("abc"),
		library("abc") + library("abc"),
		strings.Repeat("ä", 32),
		ofAbc[:61] + "０",
		strings.Repeat("０", 64),
		ofAbc + ofAbc,
	} {
		checkParse(t, s, "", api.ErrHex)
	}
}
