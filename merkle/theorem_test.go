package merkle_test

import (
	"math/rand"
	"slices"
	"strconv"
	"testing"

	"hornbook/api"
	"hornbook/merkle"
)

// tree is a list of leaves with all that the package answers of it.
type tree struct {
	leaves []string
	root   string
	proofs [][]string
}

func grown(t *testing.T, leaves []string) tree {
	t.Helper()
	root, e := merkle.Root(leaves)
	if e != api.OK {
		t.Fatalf("Root of %d leaves answers %d", len(leaves), e)
	}
	out := tree{leaves: leaves, root: root}
	for i := range leaves {
		proof, e := merkle.Prove(leaves, i)
		if e != api.OK {
			t.Fatalf("Prove of %d leaves, %d answers %d", len(leaves), i, e)
		}
		out.proofs = append(out.proofs, proof)
	}
	return out
}

// checkSound: P5.3: with the root of a tree a leaf is accepted at its own index, and nothing else is, whichever proof is tried. (That two strings have one digest is ruled out for the ones tried here.)
func checkSound(t *testing.T, x tree, n, i int, leaf string, proof []string) {
	t.Helper()
	accepted := merkle.Check(x.root, n, i, leaf, proof)
	right := n == len(x.leaves) && i >= 0 && i < n && leaf == x.leaves[i] && slices.Equal(proof, x.proofs[i])
	if accepted != right {
		t.Errorf("of %d leaves, Check with n %d, i %d, leaf %x, proof %x answers %t", len(x.leaves), n, i, leaf, proof, accepted)
	}
}

// TestAccepted: P5.3: every proof of a list is accepted.
func TestAccepted(t *testing.T) {
	for n := range 65 {
		x := grown(t, some(n))
		for i := range n {
			checkSound(t, x, n, i, x.leaves[i], x.proofs[i])
		}
	}
	for _, n := range []int{1000, 4095, 4096} {
		l := some(n)
		root, _ := merkle.Root(l)
		for _, i := range append(edgeIndexes(n), n/3, n/5, n/7) {
			proof, e := merkle.Prove(l, i)
			if e != api.OK || !merkle.Check(root, n, i, l[i], proof) {
				t.Errorf("of %d leaves, the proof for %d is not accepted (%d)", n, i, e)
			}
		}
	}
}

// TestNothingElse: P5.3: each leaf and each proof of a list, at every index of every number of leaves.
func TestNothingElse(t *testing.T) {
	for _, size := range []int{1, 2, 3, 4, 5, 7, 8, 9} {
		x := grown(t, some(size))
		for _, leaf := range append(some(size+1), x.root) {
			for _, proof := range x.proofs {
				for n := range 20 {
					for i := range n + 1 {
						checkSound(t, x, n, i, leaf, proof)
					}
				}
			}
		}
	}
}

// TestOtherIndex: P5.3 for greater lists: another index or another number of leaves with the same leaf and proof.
func TestOtherIndex(t *testing.T) {
	for _, size := range []int{33, 64, 100, 4095, 4096} {
		l := some(size)
		root, _ := merkle.Root(l)
		for _, i := range []int{0, size / 2, size - 1} {
			proof, _ := merkle.Prove(l, i)
			for other := range 4097 {
				if merkle.Check(root, size, other, l[i], proof) != (other == i) {
					t.Errorf("of %d leaves, the proof for %d is wrongly told at %d", size, i, other)
				}
				if merkle.Check(root, other, i, l[i], proof) != (other == size) {
					t.Errorf("of %d leaves, the proof for %d is wrongly told of %d leaves", size, i, other)
				}
			}
		}
	}
}

// TestPairsAreNoLeaves: P5.3: lists with the same top, where a leaf of one stands for a pair of the other, have different roots, and no proof of one is accepted with the other's.
func TestPairsAreNoLeaves(t *testing.T) {
	l := some(8)
	rows := [][]string{l}
	for _, k := range []int{4, 2, 1} {
		var row []string
		for at := range k {
			last := rows[len(rows)-1]
			row = append(row, sum(1, last[2*at], last[2*at+1]))
		}
		rows = append(rows, row)
	}
	rows = append(rows, []string{rows[1][0], l[2]}, l[:3], []string{rows[1][0], rows[1][1], l[4]}, l[:5])
	for _, from := range rows {
		x := grown(t, from)
		for _, to := range rows {
			y := grown(t, to)
			if len(from) != len(to) && x.root == y.root {
				t.Errorf("%d and %d leaves have one root", len(from), len(to))
			}
			for i, proof := range y.proofs {
				for n := range 10 {
					checkSound(t, x, n, i, to[i], proof)
				}
			}
		}
	}
}

// TestShortened: P5.3: who leaves out the lowest row, and takes a pair as a leaf, is not believed.
func TestShortened(t *testing.T) {
	for _, size := range []int{2, 3, 4, 5, 7, 8, 9, 100} {
		x := grown(t, some(size))
		for i := range size - size%2 {
			first, second := x.leaves[i-i%2], x.leaves[i-i%2+1]
			for n := range size + 2 {
				checkSound(t, x, n, i/2, sum(1, first, second), x.proofs[i][1:])
				checkSound(t, x, n, i, sum(1, first, second), x.proofs[i][1:])
			}
			// The chunk that is a pair's string, but for its first byte, has another leaf than the pair.
			if merkle.Leaf(first+second) == sum(1, first, second) || merkle.Leaf("\x01"+first+second) == sum(1, first, second) {
				t.Error("a chunk's leaf is a pair's digest")
			}
		}
	}
}

// TestOtherLeaves: P5.3 for lists: another leaf, order or number of leaves makes another root.
func TestOtherLeaves(t *testing.T) {
	seen := map[string]string{}
	note := func(name string, leaves []string) {
		t.Helper()
		root, e := merkle.Root(leaves)
		if e != api.OK {
			t.Fatalf("%s: %d", name, e)
		}
		if old, ok := seen[root]; ok {
			t.Errorf("%s and %s have one root", old, name)
		}
		seen[root] = name
	}
	l := some(10)
	for n := range 10 {
		name := strconv.Itoa(n)
		note(name, l[:n])
		for i := range n {
			note(name+" with a bit changed at "+strconv.Itoa(i), with(l[:n], i, flipped(l[i], 8*i)))
			if i > 0 {
				swapped := with(l[:n], i, l[i-1])
				swapped[i-1] = l[i]
				note(name+" swapped at "+strconv.Itoa(i), swapped)
			}
		}
		if n > 0 {
			// The last of an odd row is copied, not paired with itself.
			note(name+" and the last again", append(slices.Clone(l[:n]), l[n-1]))
		}
	}
	zeros := string(make([]byte, 32))
	note("zeros", []string{zeros})
	note("zeros twice", []string{zeros, zeros})
}

// TestSameLeaves: P5.3 where leaves are the same: each is accepted at each of its indexes, and nowhere else.
func TestSameLeaves(t *testing.T) {
	a, b := some(2)[0], some(2)[1]
	for _, leaves := range [][]string{{a, a}, {a, a, a}, {a, b, a}, {a, b, a, b}, {a, a, b, b, a}, slices.Repeat([]string{a}, 9)} {
		x := grown(t, leaves)
		for _, leaf := range []string{a, b} {
			for _, proof := range x.proofs {
				for n := range len(leaves) + 3 {
					for i := range n {
						checkSound(t, x, n, i, leaf, proof)
					}
				}
			}
		}
	}
}

// TestAnyTrees: P5.1 to P5.3 for lists of many lengths, with one thing changed.
func TestAnyTrees(t *testing.T) {
	r := rand.New(rand.NewSource(1))
	for range 200 {
		size := 1 + r.Intn(200)
		l := some(size)
		r.Shuffle(size, func(i, j int) { l[i], l[j] = l[j], l[i] })
		i := r.Intn(size)
		root := slowRoot(l)
		proof := slowProof(l, i)
		checkRoot(t, "shuffled", l, root, api.OK)
		checkProve(t, "shuffled", l, i, proof, api.OK)
		checkCheck(t, "shuffled", root, size, i, l[i], proof, true)
		checkCheck(t, "a bit of the leaf", root, size, i, flipped(l[i], r.Intn(256)), proof, false)
		checkCheck(t, "a bit of the root", flipped(root, r.Intn(256)), size, i, l[i], proof, false)
		other := (i + 1 + r.Intn(size)) % (size + 1)
		checkCheck(t, "another index", root, size, other, l[i], proof, false)
		if len(proof) > 1 {
			at := 1 + r.Intn(len(proof)-1)
			swapped := with(proof, at, proof[at-1])
			swapped[at-1] = proof[at]
			checkCheck(t, "another order", root, size, i, l[i], swapped, false)
		}
	}
}

// FuzzCheck: P1, and P5.1 to P5.3 for any numbers and strings.
func FuzzCheck(f *testing.F) {
	f.Add(3, 0, 3, 0, "", "", false)
	f.Add(9, 8, 9, 8, some(1)[0], some(1)[0], true)
	f.Add(4, 3, -1, 1<<62, text(31), text(33), true)
	f.Fuzz(func(t *testing.T, size, at, n, i int, leaf, element string, changed bool) {
		size = int(uint(size)%40) + 1
		at = int(uint(at) % uint(size))
		x := grown(t, some(size))
		checkRoot(t, "any", x.leaves, slowRoot(x.leaves), api.OK)
		checkProve(t, "any", x.leaves, at, slowProof(x.leaves, at), api.OK)
		proof := x.proofs[at]
		checkSound(t, x, n, i, x.leaves[at], proof)
		checkSound(t, x, size, at, leaf, proof)
		if changed {
			proof = append(slices.Clone(proof), element)
		} else if len(proof) > 0 {
			proof = with(proof, len(leaf)%len(proof), element)
		}
		checkSound(t, x, size, at, x.leaves[at], proof)
		checkSound(t, x, n, i, leaf, proof)
		want, wantErr := slowRoot([]string{leaf}), api.OK
		if len(leaf) != 32 {
			want, wantErr = "", api.ErrArg
		}
		checkRoot(t, "any leaf", []string{leaf}, want, wantErr)
	})
}
