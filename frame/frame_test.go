package frame_test

import (
	"encoding/binary"
	"hash/crc32"
	"slices"
	"strconv"
	"strings"
	"testing"

	"hornbook/api"
	"hornbook/frame"
)

// emptyFrame is the chapter's own example.
const emptyFrame = "\x00\x00\x00\x00\xc7\x4b\x67\x48\x00\x00\x00\x00"

// four writes a number as the chapter does.
func four(n uint32) string { return string(binary.LittleEndian.AppendUint32(nil, n)) }

// library is the checksum as the library of the language works it out.
func library(s string) uint32 { return crc32.Checksum([]byte(s), crc32.MakeTable(crc32.Castagnoli)) }

// header is a length with its right checksum, whatever the length is.
func header(n uint32) string { return four(n) + four(library(four(n))) }

// made is a frame, or what would be one if its body were not too long.
func made(body string) string {
	return header(uint32(len(body))) + body + four(library(body))
}

// some is a body of so many bytes that do not repeat soon.
func some(n int) string {
	b := make([]byte, n)
	x := uint32(n + 1)
	for i := range b {
		x = x*1664525 + 1013904223
		b[i] = byte(x >> 24)
	}
	return string(b)
}

// changed is s with the byte at an offset XORed.
func changed(s string, at int, by byte) string {
	b := []byte(s)
	b[at] ^= by
	return string(b)
}

// brief keeps a failure readable when what failed is long.
func brief(s string) string {
	if len(s) <= 60 {
		return strconv.Quote(s)
	}
	return strconv.Quote(s[:60]) + ".. of " + strconv.Itoa(len(s)) + " bytes"
}

func mustPut(t *testing.T, body string) string {
	t.Helper()
	s, e := frame.Put(body)
	if e != api.OK {
		t.Fatalf("Put(%s) answers %d", brief(body), e)
	}
	return s
}

func checkScan(t *testing.T, name, s string, bodies []string, end int) {
	t.Helper()
	got, at := frame.Scan(s)
	if at != end || !slices.Equal(got, bodies) {
		t.Errorf("%s: Scan(%s) answers %d bodies and %d, not %d bodies and %d", name, brief(s), len(got), at, len(bodies), end)
	}
}

// TestSum: P2.1, sums that are known.
func TestSum(t *testing.T) {
	for _, x := range []struct {
		s    string
		want uint32
	}{
		{"", 0},
		{"123456789", 0xE3069283},
		{"\x00\x00\x00\x00", 0x48674BC7},
		{"\x00", 0x527D5351},
		{"a", 0xC1D04330},
		// The examples of RFC 3720, B.4.
		{strings.Repeat("\x00", 32), 0x8A9136AA},
		{strings.Repeat("\xff", 32), 0x62A8AB43},
		{"\x00\x01\x02\x03\x04\x05\x06\x07\x08\x09\x0a\x0b\x0c\x0d\x0e\x0f\x10\x11\x12\x13\x14\x15\x16\x17\x18\x19\x1a\x1b\x1c\x1d\x1e\x1f", 0x46DD794E},
	} {
		if got := frame.Sum(x.s); got != x.want {
			t.Errorf("Sum(%s) is %08X, not %08X", brief(x.s), got, x.want)
		}
	}
}

// slowSum takes the definition word by word.
func slowSum(s string) uint32 {
	r := uint32(0xFFFFFFFF)
	for _, c := range []byte(s) {
		for bit := range 8 {
			l := r & 1
			r >>= 1
			if l != uint32(c>>bit)&1 {
				r ^= 0x82F63B78
			}
		}
	}
	return ^r
}

// TestSumAsDefined: P2.1 against the definition and against the library: each byte, each pair of bytes, and lengths beyond MaxFrame too.
func TestSumAsDefined(t *testing.T) {
	check := func(s string) {
		if got := frame.Sum(s); got != slowSum(s) || got != library(s) {
			t.Errorf("Sum(%s) is %08X, not %08X", brief(s), got, slowSum(s))
		}
	}
	for a := range 256 {
		check(string([]byte{byte(a)}))
		for b := range 256 {
			check(string([]byte{byte(a), byte(b)}))
		}
	}
	for n := range 300 {
		check(some(n))
	}
	for _, n := range []int{4095, 4096, api.MaxFrame, api.MaxFrame + 1, 1 << 20} {
		check(some(n))
	}
}

// TestPut: P2.1, frames that are written out.
func TestPut(t *testing.T) {
	for _, x := range []struct{ body, want string }{
		{"", emptyFrame},
		{"123456789", "\x09\x00\x00\x00" + four(library("\x09\x00\x00\x00")) + "123456789" + "\x83\x92\x06\xe3"},
		{"\x00", "\x01\x00\x00\x00" + four(library("\x01\x00\x00\x00")) + "\x00" + "\x51\x53\x7d\x52"},
		{emptyFrame, made(emptyFrame)},
		{"\xff\xfe\x80", made("\xff\xfe\x80")},
	} {
		if got, e := frame.Put(x.body); e != api.OK || got != x.want {
			t.Errorf("Put(%s) answers %x, %d, not %x", brief(x.body), got, e, x.want)
		}
	}
}

// TestPutLengths: P2.1, bodies up to MaxFrame bytes and beyond.
func TestPutLengths(t *testing.T) {
	for _, n := range []int{0, 1, 2, 3, 4, 5, 11, 12, 13, 255, 256, 257, 32767, 32768, 65535, api.MaxFrame} {
		body := some(n)
		if got := mustPut(t, body); got != made(body) || len(got) != n+12 {
			t.Errorf("Put of %d bytes answers %s", n, brief(got))
		}
	}
	if got := mustPut(t, some(api.MaxFrame)); got[:4] != "\x00\x00\x01\x00" {
		t.Errorf("the length MaxFrame is written as %x", got[:4])
	}
	for _, n := range []int{api.MaxFrame + 1, api.MaxFrame + 256, 2 * api.MaxFrame, 1 << 24} {
		if got, e := frame.Put(some(n)); e != api.ErrLong || got != "" {
			t.Errorf("Put of %d bytes answers %s, %d", n, brief(got), e)
		}
	}
}

// TestScan: P2.2 for frames, what is behind them, and what is none.
func TestScan(t *testing.T) {
	a, b, long := made("a"), made("bcd"), some(api.MaxFrame)
	for _, x := range []struct {
		name, s string
		bodies  []string
		end     int
	}{
		{"nothing", "", nil, 0},
		{"the empty frame", emptyFrame, []string{""}, 12},
		{"the chapter's example", emptyFrame + "abc", []string{""}, 12},
		{"one frame", a, []string{"a"}, 13},
		{"frames", a + b + a, []string{"a", "bcd", "a"}, 41},
		{"empty frames", emptyFrame + emptyFrame + emptyFrame, []string{"", "", ""}, 36},
		{"bytes behind", a + b + "\x00", []string{"a", "bcd"}, 28},
		{"zero bytes behind", a + strings.Repeat("\x00", 100), []string{"a"}, 13},
		{"a header behind", a + b + header(0), []string{"a", "bcd"}, 28},
		{"a byte ahead", "x" + a, nil, 0},
		{"a byte between", a + "x" + b, []string{"a"}, 13},
		{"a frame in a frame", made(a + b), []string{a + b}, 40},
		{"no frame", "abc", nil, 0},
		{"zero bytes", strings.Repeat("\x00", 100), nil, 0},
		{"greatest bytes", strings.Repeat("\xff", 100), nil, 0},
		{"MaxFrame bytes", made(long), []string{long}, api.MaxFrame + 12},
		{"MaxFrame bytes twice", made(long) + made(long) + "x", []string{long, long}, 2*api.MaxFrame + 24},
		{"many frames", strings.Repeat(a, 5000) + "a", slices.Repeat([]string{"a"}, 5000), 65000},
	} {
		checkScan(t, x.name, x.s, x.bodies, x.end)
	}
}

// TestScanLength: P2.2: lengths that were changed, or whose four bytes have their right checksum though no frame is there.
func TestScanLength(t *testing.T) {
	ahead := made("ahead")
	long := some(api.MaxFrame + 1)
	for _, x := range []struct{ name, s string }{
		{"a length that was changed to that of the bytes behind", four(2) + four(library(four(3))) + "ab" + four(library("ab"))},
		{"a length without checksum", four(0) + four(0) + four(0)},
		{"a checksum in the other byte order", "\x00\x00\x00\x00\x48\x67\x4b\xc7\x00\x00\x00\x00"},
		{"a body with a wrong checksum", header(2) + "ab" + four(library("ac"))},
		{"a length that is too small", header(1) + "ab" + four(library("ab"))},
		{"a length that is too great", header(3) + "ab" + four(library("ab"))},
		{"MaxFrame + 1", made(long)},
		{"MaxFrame + 1, and a frame behind", made(long) + ahead},
		{"twice MaxFrame", made(some(2 * api.MaxFrame))},
		{"2^31 - 1", header(1<<31-1) + "abc"},
		{"2^31", header(1<<31) + "abc"},
		{"2^32 - 12", header(1<<32-12) + emptyFrame},
		{"2^32 - 4", header(1<<32-4) + emptyFrame},
		{"2^32 - 1", header(1<<32-1) + "abc"},
		{"the greatest length and no more", header(1<<32 - 1)},
	} {
		checkScan(t, x.name, x.s, nil, 0)
		checkScan(t, x.name+", behind a frame", ahead+x.s, []string{"ahead"}, len(ahead))
	}
}
