package digest_test

import (
	"encoding/binary"
	"math/big"
	"math/bits"
	"math/rand"
	"testing"

	"hornbook/api"
	"hornbook/digest"
)

// primes answers the first n of them.
func primes(n int) []int64 {
	var found []int64
	for p := int64(2); len(found) < n; p++ {
		if big.NewInt(p).ProbablyPrime(0) {
			found = append(found, p)
		}
	}
	return found
}

// fraction answers the first 32 bits of the fractional part of a root of p: the last 32 bits of the greatest number whose power is at most p, moved left by 32 bits for each factor.
func fraction(p, power int64) uint32 {
	goal := new(big.Int).Lsh(big.NewInt(p), uint(32*power))
	root := new(big.Int)
	for bit := 40; bit >= 0; bit-- {
		next := new(big.Int).SetBit(root, bit, 1)
		if new(big.Int).Exp(next, big.NewInt(power), nil).Cmp(goal) <= 0 {
			root = next
		}
	}
	return uint32(root.Uint64())
}

// padded takes the definition word by word.
func padded(s string) string {
	p := s + "\x80"
	for len(p)%64 != 56 {
		p += "\x00"
	}
	return p + string(binary.BigEndian.AppendUint64(nil, uint64(8*len(s))))
}

// slow makes a function that takes the chapter's definition word by word, with constants that come of the primes.
func slow() func(s string) string {
	var k, initial []uint32
	for i, p := range primes(64) {
		k = append(k, fraction(p, 3))
		if i < 8 {
			initial = append(initial, fraction(p, 2))
		}
	}
	right := func(x uint32, n int) uint32 { return bits.RotateLeft32(x, -n) }
	return func(s string) string {
		words := append([]uint32(nil), initial...)
		for p := []byte(padded(s)); len(p) > 0; p = p[64:] {
			var w []uint32
			for t := range 64 {
				if t < 16 {
					w = append(w, binary.BigEndian.Uint32(p[4*t:]))
					continue
				}
				s1 := right(w[t-2], 17) ^ right(w[t-2], 19) ^ w[t-2]>>10
				s0 := right(w[t-15], 7) ^ right(w[t-15], 18) ^ w[t-15]>>3
				w = append(w, s1+w[t-7]+s0+w[t-16])
			}
			v := append([]uint32(nil), words...)
			for t := range 64 {
				a, b, c, e, f, g := v[0], v[1], v[2], v[4], v[5], v[6]
				t1 := v[7] + (right(e, 6) ^ right(e, 11) ^ right(e, 25)) + ((e & f) ^ (^e & g)) + k[t] + w[t]
				t2 := (right(a, 2) ^ right(a, 13) ^ right(a, 22)) + ((a & b) ^ (a & c) ^ (b & c))
				v = append([]uint32{t1 + t2}, v[:7]...)
				v[4] += t1
			}
			for i := range words {
				words[i] += v[i]
			}
		}
		var out []byte
		for _, word := range words {
			out = binary.BigEndian.AppendUint32(out, word)
		}
		return string(out)
	}
}

// TestOfAsDefined: P3.1 against the definition, and the definition against the library.
func TestOfAsDefined(t *testing.T) {
	defined := slow()
	check := func(s string) {
		t.Helper()
		if defined(s) != library(s) {
			t.Fatalf("the definition's digest of %s is %x, the library's %x", brief(s), defined(s), library(s))
		}
		checkOf(t, s, defined(s))
	}
	for n := range 260 {
		check(some(n))
	}
	r := rand.New(rand.NewSource(1))
	for range 300 {
		b := make([]byte, r.Intn(2000))
		r.Read(b)
		check(string(b))
	}
}

// FuzzDigest: P1, and P3.1 to P3.3 for any string.
func FuzzDigest(f *testing.F) {
	for _, s := range []string{"", "abc", ofAbc, "AB", some(55), some(56), some(64), some(119), some(120)} {
		f.Add(s, 1)
	}
	defined := slow()
	f.Fuzz(func(t *testing.T, s string, cut int) {
		checkOf(t, s, defined(s))
		d, e := digest.Parse(s)
		if e == api.OK && digest.Hex(d) != s || e != api.OK && (e != api.ErrHex || d != "") {
			t.Errorf("Parse(%s) answers %x, %d", brief(s), d, e)
		}
		checkParse(t, digest.Hex(library(s)), library(s), api.OK)
		if cut < 0 || cut > len(s) {
			cut = len(s)
		}
		checkSum(t, library(s), s[:cut], s[cut:])
	})
}
