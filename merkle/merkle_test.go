package merkle_test

import (
	"crypto/sha256"
	"encoding/binary"
	"encoding/hex"
	"math"
	"slices"
	"strconv"
	"strings"
	"testing"

	"hornbook/api"
	"hornbook/merkle"
)

// sum is the digest of a byte and strings behind it, as the library of the language works it out.
func sum(kind byte, parts ...string) string {
	d := sha256.Sum256([]byte(string([]byte{kind}) + strings.Join(parts, "")))
	return string(d[:])
}

// slowTop splits where the left part is the greatest power of two below the number of leaves: the same tree as by rows, told from its top.
func slowTop(leaves []string) string {
	switch len(leaves) {
	case 0:
		return strings.Repeat("\x00", 32)
	case 1:
		return leaves[0]
	}
	k := leftPart(len(leaves))
	return sum(1, slowTop(leaves[:k]), slowTop(leaves[k:]))
}

// leftPart answers the greatest power of two below n, for n above 1.
func leftPart(n int) int {
	k := 1
	for 2*k < n {
		k *= 2
	}
	return k
}

func slowRoot(leaves []string) string {
	return sum(2, string(binary.BigEndian.AppendUint32(nil, uint32(len(leaves)))), slowTop(leaves))
}

func slowProof(leaves []string, i int) []string {
	if len(leaves) <= 1 {
		return nil
	}
	k := leftPart(len(leaves))
	if i < k {
		return append(slowProof(leaves[:k], i), slowTop(leaves[k:]))
	}
	return append(slowProof(leaves[k:], i-k), slowTop(leaves[:k]))
}

// some answers n leaves that differ.
func some(n int) []string {
	var leaves []string
	for i := range n {
		leaves = append(leaves, sum(0, strconv.Itoa(i)))
	}
	return leaves
}

// text answers so many bytes, for a leaf that may be too short or too long.
func text(n int) string { return strings.Repeat("x", n) }

// with answers a list in which one element is another.
func with(list []string, at int, s string) []string {
	list = slices.Clone(list)
	list[at] = s
	return list
}

// flipped changes one bit of a string.
func flipped(s string, bit int) string {
	b := []byte(s)
	b[bit/8] ^= 1 << (bit % 8)
	return string(b)
}

func checkRoot(t *testing.T, name string, leaves []string, want string, wantErr api.Errno) {
	t.Helper()
	if got, e := merkle.Root(leaves); got != want || e != wantErr {
		t.Errorf("%s: Root of %d leaves answers %x, %d, not %x, %d", name, len(leaves), got, e, want, wantErr)
	}
}

func checkProve(t *testing.T, name string, leaves []string, i int, want []string, wantErr api.Errno) {
	t.Helper()
	if got, e := merkle.Prove(leaves, i); !slices.Equal(got, want) || e != wantErr {
		t.Errorf("%s: Prove of %d leaves, %d answers %x, %d, not %x, %d", name, len(leaves), i, got, e, want, wantErr)
	}
}

func checkCheck(t *testing.T, name, root string, n, i int, leaf string, proof []string, want bool) {
	t.Helper()
	if merkle.Check(root, n, i, leaf, proof) != want {
		t.Errorf("%s: Check of %d leaves, %d, %x with %x does not answer %t", name, n, i, leaf, proof, want)
	}
}

// TestLeaf: P5.1: the digest of a byte 0 and the chunk.
func TestLeaf(t *testing.T) {
	for chunk, want := range map[string]string{
		"":     "6e340b9cffb37a989ca544e6bb780a2c78901d3fb33738768511a30617afa01d",
		"\x00": "96a296d224f285c67bee93c30f8a309157f0daa35dc5b87e410b78630a09cfc7",
		"a":    "022a6979e6dab7aa5ae4c3e5e45f7e977112a7e63593820dbec1ec738a24f93c",
	} {
		if got := hex.EncodeToString([]byte(merkle.Leaf(chunk))); got != want {
			t.Errorf("Leaf(%q) is %s, not %s", chunk, got, want)
		}
	}
	for _, n := range []int{1, 31, 32, 33, 54, 55, 63, 64, 65, 511, 512, 513, 1 << 20} {
		for _, chunk := range []string{text(n), strings.Repeat("\xff", n), strings.Repeat("\x00", n), strings.Repeat("\x01", n)} {
			if got := merkle.Leaf(chunk); got != sum(0, chunk) {
				t.Errorf("Leaf of %d bytes %x is %x", n, chunk[:1], got)
			}
		}
	}
}

// TestRoot: P5.1, the chapter's example and each other small number of leaves, written out.
func TestRoot(t *testing.T) {
	l := some(9)
	ab, cd, ef, gh := sum(1, l[0], l[1]), sum(1, l[2], l[3]), sum(1, l[4], l[5]), sum(1, l[6], l[7])
	abcd, efgh := sum(1, ab, cd), sum(1, ef, gh)
	for n, top := range []string{
		strings.Repeat("\x00", 32),
		l[0],
		ab,
		sum(1, ab, l[2]),
		abcd,
		sum(1, abcd, l[4]),
		sum(1, abcd, ef),
		sum(1, abcd, sum(1, ef, l[6])),
		sum(1, abcd, efgh),
		sum(1, sum(1, abcd, efgh), l[8]),
	} {
		checkRoot(t, "written out", l[:n], sum(2, "\x00\x00\x00", string([]byte{byte(n)}), top), api.OK)
	}
	checkRoot(t, "nil", nil, sum(2, "\x00\x00\x00\x00", strings.Repeat("\x00", 32)), api.OK)
	checkRoot(t, "empty", []string{}, sum(2, "\x00\x00\x00\x00", strings.Repeat("\x00", 32)), api.OK)
}

// TestRootAsDefined: P5.1 for each number of leaves up to some rows, and for those around powers of two and around the greatest one.
func TestRootAsDefined(t *testing.T) {
	l := some(4096)
	for n := range 300 {
		checkRoot(t, "by definition", l[:n], slowRoot(l[:n]), api.OK)
	}
	for _, n := range []int{511, 512, 513, 1023, 1025, 2047, 2048, 2049, 3000, 4094, 4095, 4096} {
		checkRoot(t, "by definition", l[:n], slowRoot(l[:n]), api.OK)
	}
}

// TestRootAnyBytes: P5.1: 32 bytes of any kind are a leaf, and leaves may be the same.
func TestRootAnyBytes(t *testing.T) {
	for c := range 256 {
		leaf := strings.Repeat(string([]byte{byte(c)}), 32)
		for n := range 6 {
			l := slices.Repeat([]string{leaf}, n)
			checkRoot(t, "one leaf again and again", l, slowRoot(l), api.OK)
		}
	}
	l := []string{strings.Repeat("ä", 16), strings.Repeat("🙂", 8), strings.Repeat("\xff", 32)}
	checkRoot(t, "characters", l, slowRoot(l), api.OK)
}

// wrongLists are lists of leaves that are not valid, with their errors.
func wrongLists() map[string]struct {
	leaves []string
	e      api.Errno
} {
	type list = struct {
		leaves []string
		e      api.Errno
	}
	lists := map[string]list{
		"4097 leaves":   {some(4097), api.ErrLong},
		"5000 leaves":   {some(5000), api.ErrLong},
		"2^20 leaves":   {slices.Repeat([]string{text(32)}, 1<<20), api.ErrLong},
		"4097 times ''": {make([]string, 4097), api.ErrLong},
		"32 characters": {[]string{strings.Repeat("ä", 32)}, api.ErrArg},
		"two in one":    {[]string{text(64)}, api.ErrArg},
	}
	for _, n := range []int{0, 1, 31, 33, 63, 64, 65, 1 << 16} {
		bytes := strconv.Itoa(n) + " bytes "
		lists[bytes+"alone"] = list{[]string{text(n)}, api.ErrArg}
		for _, at := range []int{0, 1, 2} {
			lists[bytes+"of three at "+strconv.Itoa(at)] = list{with(some(3), at, text(n)), api.ErrArg}
		}
		for _, at := range []int{0, 2000, 4095} {
			lists[bytes+"of 4096 at "+strconv.Itoa(at)] = list{with(some(4096), at, text(n)), api.ErrArg}
		}
		for _, at := range []int{0, 2000, 4096} {
			lists[bytes+"of 4097 at "+strconv.Itoa(at)] = list{with(some(4097), at, text(n)), api.ErrLong}
		}
	}
	return lists
}

// TestWrongLists: P5.1: the errors of Root, and that they go ahead of Prove's own, for right and wrong indexes; none has a result beside it.
func TestWrongLists(t *testing.T) {
	for name, x := range wrongLists() {
		checkRoot(t, name, x.leaves, "", x.e)
		for _, i := range []int{math.MinInt, -1, 0, len(x.leaves) - 1, len(x.leaves), math.MaxInt} {
			checkProve(t, name, x.leaves, i, nil, x.e)
		}
	}
	checkRoot(t, "32 bytes", []string{text(32)}, slowRoot([]string{text(32)}), api.OK)
}

// TestProve: P5.1, the chapter's examples and each other small number of leaves, written out.
func TestProve(t *testing.T) {
	l := some(9)
	a, b, c, d, e, f, g, h, x := l[0], l[1], l[2], l[3], l[4], l[5], l[6], l[7], l[8]
	ab, cd, ef, gh := sum(1, a, b), sum(1, c, d), sum(1, e, f), sum(1, g, h)
	abcd, efg, efgh := sum(1, ab, cd), sum(1, ef, g), sum(1, ef, gh)
	for n, proofs := range map[int][][]string{
		1: {{}},
		2: {{b}, {a}},
		3: {{b, c}, {a, c}, {ab}},
		4: {{b, cd}, {a, cd}, {d, ab}, {c, ab}},
		5: {{b, cd, e}, {a, cd, e}, {d, ab, e}, {c, ab, e}, {abcd}},
		7: {{b, cd, efg}, {a, cd, efg}, {d, ab, efg}, {c, ab, efg}, {f, g, abcd}, {e, g, abcd}, {ef, abcd}},
		8: {{b, cd, efgh}, {a, cd, efgh}, {d, ab, efgh}, {c, ab, efgh}, {f, gh, abcd}, {e, gh, abcd}, {h, ef, abcd}, {g, ef, abcd}},
		9: {{b, cd, efgh, x}, {a, cd, efgh, x}, {d, ab, efgh, x}, {c, ab, efgh, x}, {f, gh, abcd, x}, {e, gh, abcd, x}, {h, ef, abcd, x}, {g, ef, abcd, x}, {sum(1, abcd, efgh)}},
	} {
		for i, proof := range proofs {
			checkProve(t, "written out", l[:n], i, proof, api.OK)
			checkCheck(t, "written out", slowRoot(l[:n]), n, i, l[i], proof, true)
		}
	}
}

// edgeIndexes are those of n leaves that are first, last, in the middle, and beside an end of an even row.
func edgeIndexes(n int) []int {
	return []int{0, 1, 2, n / 2, n/2 + 1, n - 3, n - 2, n - 1}
}

// TestProveAsDefined: P5.1 and P5.2 for each index of many numbers of leaves, and for some of the greatest ones.
func TestProveAsDefined(t *testing.T) {
	l := some(4096)
	check := func(n, i int) {
		t.Helper()
		proof := slowProof(l[:n], i)
		checkProve(t, "by definition", l[:n], i, proof, api.OK)
		checkCheck(t, "by definition", slowRoot(l[:n]), n, i, l[i], proof, true)
	}
	for n := 1; n <= 70; n++ {
		for i := range n {
			check(n, i)
		}
	}
	for _, n := range []int{127, 128, 129, 1000, 2047, 2048, 2049, 4093, 4094, 4095, 4096} {
		for _, i := range edgeIndexes(n) {
			check(n, i)
		}
	}
}

// TestProveIndex: P5.1: an index that the list has not; no leaves have none.
func TestProveIndex(t *testing.T) {
	for _, n := range []int{0, 1, 2, 3, 4, 5, 7, 8, 9, 4095, 4096} {
		for _, i := range []int{-1, n, n + 1, -n, -2, 4097, math.MinInt, math.MinInt32, math.MaxInt32, 1 << 31, 1 << 32, math.MaxInt} {
			if i < 0 || i >= n {
				checkProve(t, "no index", some(n), i, nil, api.ErrArg)
			}
		}
	}
	checkProve(t, "no leaves", nil, 0, nil, api.ErrArg)
}

// TestCheckNumbers: P5.2: an n or an i that may not be, with what is else right.
func TestCheckNumbers(t *testing.T) {
	far := []int{math.MinInt, math.MinInt + 1, math.MinInt32, -4096, -2, -1, 4096, 4097, 1 << 16, math.MaxInt32, 1 << 31, 1 << 32, math.MaxInt - 1, math.MaxInt}
	for _, n := range []int{1, 2, 3, 4, 5, 7, 8, 9, 1000} {
		l := some(n)
		root := slowRoot(l)
		for _, i := range []int{0, n - 1} {
			proof := slowProof(l, i)
			for _, other := range append(far, 0) {
				checkCheck(t, "another n", root, other, i, l[i], proof, false)
			}
			for _, other := range append(far, n, n+1) {
				checkCheck(t, "another i", root, n, other, l[i], proof, false)
				for _, both := range far {
					checkCheck(t, "another n and i", root, both, other, l[i], proof, false)
				}
			}
			// By 2^32 these are n and i.
			checkCheck(t, "n beyond 32 bits", root, n+1<<32, i, l[i], proof, false)
			checkCheck(t, "i beyond 32 bits", root, n, i+1<<32, l[i], proof, false)
		}
	}
}

// TestCheckNoLeaves: P5.2: nothing is shown of no leaves, not even by their root.
func TestCheckNoLeaves(t *testing.T) {
	zeros := strings.Repeat("\x00", 32)
	root := slowRoot(nil)
	for _, i := range []int{-1, 0, 1} {
		for _, leaf := range []string{"", zeros, root} {
			for _, proof := range [][]string{nil, {}, {zeros}, {""}} {
				checkCheck(t, "no leaves", root, 0, i, leaf, proof, false)
				checkCheck(t, "one leaf", root, 1, i, leaf, proof, false)
			}
		}
	}
}

// TestCheckTooMany: P5.2: 4096 leaves may be, and a right root and proof of 4097 leaves are none.
func TestCheckTooMany(t *testing.T) {
	l := some(4097)
	for _, i := range []int{0, 1, 4094, 4095} {
		checkCheck(t, "4096", slowRoot(l[:4096]), 4096, i, l[i], slowProof(l[:4096], i), true)
	}
	for _, i := range []int{0, 1, 4095, 4096} {
		checkCheck(t, "4097", slowRoot(l), 4097, i, l[i], slowProof(l, i), false)
	}
}

// TestCheckLengths: P5.2: a leaf or an element of another length, also where what is hashed stays the same.
func TestCheckLengths(t *testing.T) {
	for _, n := range []int{1, 2, 3, 5, 8, 9} {
		l := some(n)
		root := slowRoot(l)
		for i := range n {
			proof := slowProof(l, i)
			for _, leaf := range []string{"", l[i][:31], l[i] + "\x00", "\x00" + l[i], l[i] + l[i], text(33)} {
				checkCheck(t, "a leaf of another length", root, n, i, leaf, proof, false)
			}
			for at, p := range proof {
				for _, s := range []string{"", p[:31], p[1:], p + "\x00", "\x00" + p, p + p} {
					checkCheck(t, "an element of another length", root, n, i, l[i], with(proof, at, s), false)
				}
			}
		}
	}
	// The string of the pair is that of a and b, though it is parted elsewhere.
	a, b := some(2)[0], some(2)[1]
	ab := a + b
	root := slowRoot([]string{a, b})
	for at := range 65 {
		checkCheck(t, "parted elsewhere", root, 2, 0, ab[:at], []string{ab[at:]}, at == 32)
		checkCheck(t, "parted elsewhere", root, 2, 1, ab[at:], []string{ab[:at]}, at == 32)
	}
	// A root of a leaf that is too short or too long has one computation, and is still not accepted.
	for _, k := range []int{0, 31, 33, 64} {
		checkCheck(t, "one wrong leaf", slowRoot([]string{text(k)}), 1, 0, text(k), nil, false)
		pair := []string{text(k), text(k)}
		checkCheck(t, "two wrong leaves", slowRoot(pair), 2, 0, text(k), pair[1:], false)
		mixed := []string{text(32), text(k)}
		checkCheck(t, "a wrong element", slowRoot(mixed), 2, 0, text(32), mixed[1:], false)
		checkCheck(t, "a wrong leaf", slowRoot(mixed), 2, 1, text(k), mixed[:1], false)
	}
}

// TestCheckElements: P5.2: a proof of one element more or fewer, at any place, or of none.
func TestCheckElements(t *testing.T) {
	for _, n := range []int{1, 2, 3, 4, 5, 7, 8, 9, 100, 4095, 4096} {
		l := some(n)
		root := slowRoot(l)
		for _, i := range edgeIndexes(n) {
			if i < 0 || i >= n {
				continue
			}
			proof := slowProof(l, i)
			for at := range len(proof) + 1 {
				for _, more := range []string{"", l[i], root, text(31), text(32)} {
					checkCheck(t, "one more", root, n, i, l[i], slices.Insert(slices.Clone(proof), at, more), false)
				}
				if at < len(proof) {
					checkCheck(t, "one fewer", root, n, i, l[i], slices.Delete(slices.Clone(proof), at, at+1), false)
				}
			}
			checkCheck(t, "nil", root, n, i, l[i], nil, n == 1)
			checkCheck(t, "empty", root, n, i, l[i], []string{}, n == 1)
			checkCheck(t, "very many", root, n, i, l[i], slices.Repeat([]string{l[i]}, 10000), false)
		}
	}
	// The last of three is copied once: an element for that row would make the root of another tree.
	l := some(3)
	wrong := sum(2, "\x00\x00\x00\x03", sum(1, l[0], sum(1, l[2], l[1])))
	checkCheck(t, "an element where there is none", wrong, 3, 2, l[2], []string{l[1], l[0]}, false)
}

// TestCheckBits: P5.2: one bit of the root, of the leaf or of an element.
func TestCheckBits(t *testing.T) {
	for _, n := range []int{1, 2, 3, 4, 5, 7, 8, 9} {
		l := some(n)
		root := slowRoot(l)
		for i := range n {
			proof := slowProof(l, i)
			for bit := range 256 {
				checkCheck(t, "the root", flipped(root, bit), n, i, l[i], proof, false)
				checkCheck(t, "the leaf", root, n, i, flipped(l[i], bit), proof, false)
			}
			for at, p := range proof {
				for bit := range 256 {
					checkCheck(t, "an element", root, n, i, l[i], with(proof, at, flipped(p, bit)), false)
				}
			}
		}
	}
}

// TestCheckRoots: P5.2: what is like the root and is not.
func TestCheckRoots(t *testing.T) {
	for _, n := range []int{1, 2, 3, 8, 9} {
		l := some(n)
		root := slowRoot(l)
		for _, other := range []string{"", root[:31], root[1:], root + "\x00", root + root, hex.EncodeToString([]byte(root)), slowTop(l), l[0], strings.Repeat("\x00", 32), sum(2, slowTop(l)), sum(1, slowTop(l)),
			sum(2, string(binary.LittleEndian.AppendUint32(nil, uint32(n))), slowTop(l)), sum(2, string(binary.BigEndian.AppendUint64(nil, uint64(n))), slowTop(l))} {
			for i := range n {
				checkCheck(t, "another root", other, n, i, l[i], slowProof(l, i), false)
			}
		}
	}
}

// TestListsStay: R1 and R4: no list that is passed is changed, not even behind its end, and who changes an answer changes no leaf and no other answer.
func TestListsStay(t *testing.T) {
	for _, n := range []int{1, 2, 3, 5, 8, 9} {
		whole := some(20)
		l := whole[:n]
		root, _ := merkle.Root(l)
		for i := range n {
			proof, _ := merkle.Prove(l, i)
			kept := append(slices.Clone(proof), text(32), text(32))
			merkle.Check(root, n, i, l[i], kept[:len(proof)])
			if !slices.Equal(kept, append(slices.Clone(proof), text(32), text(32))) {
				t.Errorf("Check of %d leaves, %d changed the proof", n, i)
			}
			for at := range proof {
				proof[at] = "changed"
			}
			_ = append(proof, "changed")
			checkProve(t, "behind a change", l, i, slowProof(l, i), api.OK)
		}
		if !slices.Equal(whole, some(20)) {
			t.Errorf("the leaves were changed: %x", whole)
		}
	}
}
