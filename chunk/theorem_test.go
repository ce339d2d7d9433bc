package chunk_test

import (
	"math/rand"
	"slices"
	"strings"
	"testing"

	"hornbook/chunk"
)

// complete tells whether a string that is a chunk ends by its weight or by its length.
func complete(s string) bool {
	return len(s) >= 32 && slowWeight(s)%64 == 7 || len(s) == 512
}

// slowCuts tries every prefix of what remains, as the definition says.
func slowCuts(s string) []int {
	var cuts []int
	from := 0
	for from < len(s) {
		n := 1
		for !complete(s[from:from+n]) && from+n < len(s) {
			n++
		}
		from += n
		cuts = append(cuts, from)
	}
	return cuts
}

// moved adds a number to each of a list.
func moved(list []int, by int) []int {
	var out []int
	for _, n := range list {
		out = append(out, n+by)
	}
	return out
}

// checkWhole: P4.2: the chunks are the string, and none is too short or too long.
func checkWhole(t *testing.T, s string) {
	t.Helper()
	texts := chunk.Texts(s)
	if strings.Join(texts, "") != s {
		t.Errorf("the chunks of %s are another string", brief(s))
	}
	for i, text := range texts {
		last := i == len(texts)-1
		if len(text) > 512 || len(text) < 1 || len(text) < 32 && !last {
			t.Errorf("the chunk %d of %d of %s has %d bytes", i, len(texts), brief(s), len(text))
		}
	}
}

// checkParts: P4.2: what is ahead of a cut and what is behind it are split as if they stood alone.
func checkParts(t *testing.T, s string) {
	t.Helper()
	cuts := chunk.Cuts(s)
	for i, end := range cuts {
		checkCuts(t, "ahead of a cut", s[:end], cuts[:i+1]...)
		checkCuts(t, "behind a cut", s[end:], moved(cuts[i+1:], -end)...)
	}
}

// checkAppended: P4.2: chunks that are complete stay; a last one that is not goes on.
func checkAppended(t *testing.T, s, more string) {
	t.Helper()
	old, texts := chunk.Cuts(s), chunk.Texts(s)
	if n := len(old); n > 0 && !complete(texts[n-1]) {
		old = old[:n-1]
	}
	got := chunk.Cuts(s + more)
	if len(got) < len(old) || !slices.Equal(got[:len(old)], old) {
		t.Errorf("%s had the cuts %v, and with %s it has %v", brief(s), old, brief(more), got)
	}
	if more != "" && len(s) > 0 && slices.Contains(got, len(s)) != slices.Contains(old, len(s)) {
		t.Errorf("of %s, the cut at its end is wrong with %s behind it: %v", brief(s), brief(more), got)
	}
}

// checkAll holds a string against the definition and the theorems.
func checkAll(t *testing.T, s, more string) {
	t.Helper()
	checkCuts(t, "by definition", s, slowCuts(s)...)
	checkWhole(t, s)
	checkParts(t, s)
	checkAppended(t, s, more)
}

// someString has bytes of a few kinds, so that chunks end by their weight in some strings, and by their length in others.
func someString(r *rand.Rand, most int) string {
	b := make([]byte, r.Intn(most))
	kinds := 1 << r.Intn(9)
	step := 1 << r.Intn(8)
	for i := range b {
		b[i] = byte(r.Intn(kinds) * step)
	}
	return string(b)
}

// TestSplitAsDefined: P4.1 and P4.2 for strings of many lengths and bytes.
func TestSplitAsDefined(t *testing.T) {
	r := rand.New(rand.NewSource(1))
	byWeight, byLength, byEnd := 0, 0, 0
	for range 300 {
		s := someString(r, 3000)
		checkAll(t, s, someString(r, 100))
		for _, text := range chunk.Texts(s) {
			switch {
			case !complete(text):
				byEnd++
			case len(text) == 512:
				byLength++
			default:
				byWeight++
			}
		}
	}
	if byWeight < 200 || byLength < 200 || byEnd < 200 {
		t.Errorf("too few chunks to tell: %d end by weight, %d by length, %d by the end", byWeight, byLength, byEnd)
	}
}

// TestSplitEdges: P4.2 for every length around the least and the greatest one of a chunk.
func TestSplitEdges(t *testing.T) {
	for _, n := range []int{0, 1, 2, 15, 16, 17, 30, 31, 32, 33, 34, 63, 64, 65, 510, 511, 512, 513, 514, 543, 544, 545, 1023, 1024, 1025, 1100} {
		for _, more := range []string{"", "\x00", "\x07", some(31), some(32), zeros(512)} {
			checkAll(t, zeros(n), more)
			checkAll(t, some(n), more)
			checkAll(t, zeros(n)+"\x07", more)
		}
	}
}

// TestCutOffAnywhere: P4.2: a string that is cut off at each of its bytes keeps the cuts ahead of that byte.
func TestCutOffAnywhere(t *testing.T) {
	for _, s := range []string{some(700), zeros(1100), zeros(600) + some(300), strings.Repeat(zeros(31)+"\x07", 10), strings.Repeat(zeros(39)+"\x07", 20)} {
		cuts := chunk.Cuts(s)
		for n := range len(s) {
			i, _ := slices.BinarySearch(cuts, n)
			want := slices.Clone(cuts[:i])
			if n > 0 {
				want = append(want, n)
			}
			checkCuts(t, "cut off", s[:n], want...)
			checkAppended(t, s[:n], s[n:])
		}
	}
}

// TestOtherBeginning: P4.2: behind a common cut the beginning of a string no longer tells.
func TestOtherBeginning(t *testing.T) {
	tail := some(3000)
	for _, head := range []string{zeros(512), zeros(1024), zeros(31) + "\x07", strings.Repeat(zeros(39)+"\x07", 3)} {
		want := append(slowCuts(head), moved(chunk.Cuts(tail), len(head))...)
		checkCuts(t, "another beginning", head+tail, want...)
	}
}

// TestSplitLong: P1 and P4.2 for strings that are long.
func TestSplitLong(t *testing.T) {
	for _, s := range []string{some(1 << 20), zeros(1 << 20), zeros(1<<20 + 1), strings.Repeat(zeros(31)+"\x07", 1<<15)} {
		checkWhole(t, s)
		checkCuts(t, "long", s, slowCuts(s)...)
	}
	checkWhole(t, some(1<<24))
}

// FuzzSplit: P1, P4.1 and P4.2 for any string.
func FuzzSplit(f *testing.F) {
	for _, s := range []string{"", "abc", some(31), some(32), some(600), zeros(513), zeros(31) + "\x07", zeros(511) + "\x07"} {
		f.Add(s, "more")
	}
	f.Fuzz(func(t *testing.T, s, more string) {
		checkWeight(t, s, slowWeight(s))
		checkAll(t, s, more)
	})
}
