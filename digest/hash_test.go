package digest_test

import (
	"crypto/sha256"
	"math/rand"
	"strings"
	"testing"

	"hornbook/digest"
)

// checkSum adds pieces to a new Hash and looks at its digest.
func checkSum(t *testing.T, want string, pieces ...string) {
	t.Helper()
	h := digest.New()
	for _, piece := range pieces {
		h.Add(piece)
	}
	if got := h.Sum(); got != want {
		t.Errorf("the digest of %d pieces is %x, not %x", len(pieces), got, want)
	}
}

// TestHash: P3.3 for some pieces.
func TestHash(t *testing.T) {
	checkSum(t, library(""))
	checkSum(t, library(""), "")
	checkSum(t, library(""), "", "", "")
	checkSum(t, library("abc"), "abc")
	checkSum(t, library("abc"), "a", "bc")
	checkSum(t, library("abc"), "", "a", "", "b", "c", "")
	checkSum(t, library("\x00\xff\x80"), "\x00", "\xff", "\x80")
	checkSum(t, library(some(1<<20)+some(64)+"x"), some(1<<20), some(64), "x")
}

// TestHashCuts: P3.3 for strings around the ends of blocks, cut at each place, and byte by byte.
func TestHashCuts(t *testing.T) {
	for _, n := range []int{1, 2, 54, 55, 56, 57, 62, 63, 64, 65, 66, 118, 119, 120, 121, 127, 128, 129, 183, 184, 191, 192, 193, 256} {
		s := some(n)
		for cut := range n + 1 {
			checkSum(t, library(s), s[:cut], s[cut:])
			checkSum(t, library(s), s[:cut/2], s[cut/2:cut], "", s[cut:])
		}
		checkSum(t, library(s), bytesOf(s)...)
	}
}

// bytesOf answers the bytes of a string, one a piece.
func bytesOf(s string) []string {
	var pieces []string
	for i := range len(s) {
		pieces = append(pieces, s[i:i+1])
	}
	return pieces
}

// TestHashPieces: P3.3 for pieces of many lengths, with Sum asked for behind each of them.
func TestHashPieces(t *testing.T) {
	r := rand.New(rand.NewSource(2))
	for range 200 {
		h := digest.New()
		var all strings.Builder
		for range r.Intn(20) {
			b := make([]byte, r.Intn(1+r.Intn(200)))
			r.Read(b)
			h.Add(string(b))
			all.Write(b)
			for range r.Intn(3) {
				if got := h.Sum(); got != library(all.String()) {
					t.Fatalf("the digest of %s is %x, not %x", brief(all.String()), got, library(all.String()))
				}
			}
		}
		if got := h.Sum(); got != library(all.String()) {
			t.Errorf("the digest of %s is %x, not %x", brief(all.String()), got, library(all.String()))
		}
	}
}

// TestSumChangesNothing: P3.3: Sum is asked for again and again at every length, and what it answered earlier stays.
func TestSumChangesNothing(t *testing.T) {
	h := digest.New()
	s := some(300)
	var sums []string
	for n := range len(s) {
		before := *h
		for range 3 {
			if got := h.Sum(); got != library(s[:n]) {
				t.Fatalf("the digest of %d bytes is %x, not %x", n, got, library(s[:n]))
			}
		}
		if *h != before {
			t.Fatalf("Sum behind %d bytes changed the Hash", n)
		}
		sums = append(sums, h.Sum())
		h.Add(s[n : n+1])
	}
	for n, sum := range sums {
		if sum != library(s[:n]) {
			t.Errorf("the digest of %d bytes became %x", n, sum)
		}
	}
}

// TestHashesSideBySide: P3.3: what is added to a Hash is in no other one.
func TestHashesSideBySide(t *testing.T) {
	a, b, none := digest.New(), digest.New(), digest.New()
	if a == b || b == none {
		t.Fatal("New answers one Hash twice")
	}
	var inA, inB string
	for n := range 150 {
		a.Add(some(n))
		inA += some(n)
		digest.Of("between")
		b.Add(some(3))
		inB += some(3)
		if a.Sum() != library(inA) || b.Sum() != library(inB) || none.Sum() != library("") {
			t.Fatalf("behind %d pieces the digests are %x, %x, %x", n+1, a.Sum(), b.Sum(), none.Sum())
		}
	}
	if late := digest.New(); late.Sum() != library("") {
		t.Errorf("a later Hash begins with %x", late.Sum())
	}
}

// TestHashCopied: P3.3 for a Hash that was copied: each goes on by itself.
func TestHashCopied(t *testing.T) {
	for n := range 130 {
		h := digest.New()
		h.Add(some(n))
		other := *h
		other.Add("other")
		h.Add("first")
		if h.Sum() != library(some(n)+"first") || other.Sum() != library(some(n)+"other") {
			t.Errorf("copied behind %d bytes, the digests are %x and %x", n, h.Sum(), other.Sum())
		}
	}
}

// TestHashNil: P3.3 for a nil Hash.
func TestHashNil(t *testing.T) {
	var h *digest.Hash
	for _, s := range []string{"", "abc", some(64), some(1000)} {
		h.Add(s)
		if got := h.Sum(); got != "" || h != nil {
			t.Errorf("a nil Hash that %s was added to answers %x", brief(s), got)
		}
	}
}

// TestHashNotNew: P1 for a Hash that New did not make.
func TestHashNotNew(t *testing.T) {
	var h digest.Hash
	if h.Sum() != library("") {
		t.Errorf("it begins with %x", h.Sum())
	}
	h.Add(some(100))
	if h.Sum() != library(some(100)) {
		t.Errorf("behind 100 bytes it has %x", h.Sum())
	}
}

// TestHashLong: P3.1 and P3.3 where the length in bits no longer fits 31 or 32 bits.
func TestHashLong(t *testing.T) {
	if testing.Short() {
		t.Skip("takes some seconds")
	}
	piece := some(1 << 20)
	h, want := digest.New(), sha256.New()
	for n := range 512 {
		h.Add(piece)
		want.Write([]byte(piece))
		if n == 255 || n == 511 {
			if got := h.Sum(); got != string(want.Sum(nil)) {
				t.Errorf("the digest of 2^20 times %d bytes is %x, not %x", n+1, got, want.Sum(nil))
			}
		}
	}
}
