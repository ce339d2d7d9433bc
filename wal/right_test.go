package wal_test

import (
	"math"
	"slices"
	"strings"
	"testing"

	"hornbook/api"
)

// checkState holds Right, Put and Get of a state against what is wanted.
func checkState(t *testing.T, name string, h api.Hard, valid bool) {
	t.Helper()
	checkRight(t, name, h, valid)
	if valid {
		checkPut(t, name, h, writtenState(h), api.OK)
		checkGet(t, name, writtenState(h), h, api.OK)
		return
	}
	checkPut(t, name, h, "", api.ErrArg)
	if len(writtenState(h)) <= 131072 {
		checkGet(t, name, writtenState(h), api.Hard{}, api.ErrArg)
	}
}

// odd is numbers that no field of a state may be.
func odd() []int {
	return []int{math.MinInt, math.MinInt + 1, math.MinInt32, -top - 1, -top, -2, -1, top + 1, math.MaxInt32, math.MaxInt32 + 1, 1 << 32, math.MaxInt - top, math.MaxInt - 1, math.MaxInt}
}

// TestTerm: P14.1: a Term is 0 to 2^30.
func TestTerm(t *testing.T) {
	for _, term := range []int{0, 1, 2, 1000, top - 1, top} {
		checkState(t, "a Term", state(term, 0, log(0, 0), ""), true)
		checkState(t, "a Term", state(term, 3, log(0, 0), "snap", 1, 2), true)
	}
	for _, term := range odd() {
		checkState(t, "a Term", state(term, 0, log(0, 0), ""), false)
		checkState(t, "a Term", state(term, 0, log(1, 1, record(1, 0, "")), ""), false)
	}
}

// TestVote: P14.1: a Vote is 0 to 9, whatever the Term is.
func TestVote(t *testing.T) {
	for _, term := range []int{0, 1, top} {
		for vote := range 10 {
			checkState(t, "a Vote", state(term, vote, log(0, 0), ""), true)
		}
		for _, vote := range append(odd(), 10, 11, 100, top) {
			checkState(t, "a Vote", state(term, vote, log(0, 0), ""), false)
		}
	}
}

// TestBase: P14.1: a Base is 0 to 2^30, with a BaseTerm of 1 to the Term; and 0 goes with 0.
func TestBase(t *testing.T) {
	for _, term := range []int{0, 1, 2, 7, top - 1, top} {
		for _, base := range []int{0, 1, 2, 1000, top - 1, top} {
			for _, baseTerm := range []int{0, 1, 2, 6, 7, 8, top - 1, top} {
				valid := base == 0 && baseTerm == 0 || base > 0 && baseTerm >= 1 && baseTerm <= term
				checkState(t, "a Base", state(term, 1, log(base, baseTerm), "s"), valid)
			}
			for _, baseTerm := range append(odd(), term+1) {
				checkState(t, "a BaseTerm", state(term, 1, log(base, baseTerm), ""), false)
			}
		}
		for _, base := range odd() {
			for _, baseTerm := range []int{0, 1, term} {
				checkState(t, "a Base", state(term, 1, log(base, baseTerm), ""), false)
			}
		}
	}
}

// TestManyRecords: P14.1: there are up to 200 records, and none behind the index 2^30.
func TestManyRecords(t *testing.T) {
	for _, n := range []int{0, 1, 2, 199, 200, 201, 202, 300} {
		checkState(t, "records", state(3, 0, log(0, 0, some(n, 3)...), ""), n <= 200)
		checkState(t, "records", state(3, 0, log(top-500, 2, some(n, 3)...), ""), n <= 200)
		checkState(t, "as many records as indices", state(3, 0, log(top-n, 2, some(n, 3)...), ""), n <= 200)
		if n > 0 {
			checkState(t, "more records than indices", state(3, 0, log(top-n+1, 2, some(n, 3)...), ""), false)
		}
		if n > 1 && n < 200 {
			checkState(t, "fewer records than indices", state(3, 0, log(top-n-1, 2, some(n, 3)...), ""), true)
		}
	}
	for _, base := range []int{top, top - 1, top - 199, top - 200, top - 201} {
		for _, n := range []int{0, 1, 2, 198, 199, 200, 201} {
			checkState(t, "records behind a Base", state(top, 0, log(base, top, some(n, top)...), ""), n <= 200 && base+n <= top)
		}
	}
	checkRight(t, "far too many", state(3, 0, log(0, 0, some(50000, 3)...), ""), false)
}

// TestRecordTerms: P14.1: the Terms of records are 1 to the Term, none is below the one ahead of it, and the first is not below the BaseTerm.
func TestRecordTerms(t *testing.T) {
	terms := func(l ...int) []api.Record {
		var records []api.Record
		for _, term := range l {
			records = append(records, record(term, 1, "d"))
		}
		return records
	}
	for _, x := range []struct {
		term, baseTerm int
		terms          []int
		valid          bool
	}{
		{5, 0, []int{1}, true},
		{5, 0, []int{0}, false},
		{5, 0, []int{-1}, false},
		{5, 0, []int{5}, true},
		{5, 0, []int{6}, false},
		{0, 0, []int{0}, false},
		{0, 0, []int{1}, false},
		{1, 0, []int{1}, true},
		{1, 0, []int{2}, false},
		{5, 0, []int{1, 1, 1}, true},
		{5, 0, []int{1, 2, 5}, true},
		{5, 0, []int{1, 5, 5}, true},
		{5, 0, []int{1, 5, 6}, false},
		{5, 0, []int{1, 6, 5}, false},
		{5, 0, []int{2, 1}, false},
		{5, 0, []int{1, 3, 2}, false},
		{5, 0, []int{1, 3, 2, 3}, false},
		{5, 0, []int{1, 0}, false},
		{5, 0, []int{0, 1}, false},
		{5, 3, []int{3}, true},
		{5, 3, []int{4}, true},
		{5, 3, []int{5}, true},
		{5, 3, []int{2}, false},
		{5, 3, []int{1}, false},
		{5, 3, []int{0}, false},
		{5, 3, []int{6}, false},
		{5, 3, []int{2, 3}, false},
		{5, 3, []int{3, 2}, false},
		{5, 5, []int{5, 5}, true},
		{5, 5, []int{4}, false},
		{top, 1, []int{1, top}, true},
		{top, top, []int{top}, true},
		{top, top, []int{top - 1}, false},
		{top, 1, []int{top + 1}, false},
	} {
		base := min(x.baseTerm, 1) * 8
		checkState(t, "Terms of records", state(x.term, 0, log(base, x.baseTerm, terms(x.terms...)...), ""), x.valid)
	}
	for _, term := range odd() {
		checkState(t, "a Term of a record", state(top, 0, log(0, 0, terms(term)...), ""), false)
		checkState(t, "a Term of a record", state(top, 0, log(0, 0, terms(1, term)...), ""), false)
		checkState(t, "a Term of a record", state(top, 0, log(2, 1, terms(1, term, top)...), ""), false)
	}
	long := some(200, 3)
	for i := range long {
		low, high := slices.Clone(long), slices.Clone(long)
		low[i].Term, high[i].Term = 2, 4
		checkRight(t, "a lower Term", state(4, 0, log(0, 0, low...), ""), i == 0)
		checkRight(t, "a lower Term behind a Base", state(4, 0, log(1, 3, low...), ""), false)
		checkRight(t, "a higher Term", state(4, 0, log(0, 0, high...), ""), i == 199)
		checkRight(t, "too high a Term", state(3, 0, log(0, 0, high...), ""), false)
	}
}

// TestKinds: P14.1: Kinds are 0 to 2, of whichever record.
func TestKinds(t *testing.T) {
	for _, kind := range append(odd(), 0, 1, 2, 3, 4, 255, top) {
		valid := kind == 0 || kind == 1 || kind == 2
		for i := range 3 {
			records := some(3, 1)
			records[i].Kind = kind
			checkState(t, "a Kind", state(1, 0, log(0, 0, records...), ""), valid)
		}
	}
}

// TestData: P14.1: Data have up to 8192 bytes, of any kind, each for itself.
func TestData(t *testing.T) {
	for _, n := range []int{0, 1, 100, 8191, 8192, 8193, 8194, 70000} {
		for i := range 3 {
			records := some(3, 1)
			records[i].Data = letters(n)
			checkState(t, "Data", state(1, 0, log(0, 0, records...), ""), n <= 8192)
		}
	}
	for _, data := range []string{"\x00", "\xff\xfe", "e", "i0e", "3:abc", "\n", "é", strings.Repeat("\x00", 8192)} {
		for kind := range 3 {
			checkState(t, "Data", state(1, 0, log(0, 0, record(1, kind, data)), data), true)
		}
	}
	many := slices.Repeat([]api.Record{record(1, 1, letters(8192))}, 15)
	checkState(t, "much Data", state(1, 0, log(0, 0, many...), ""), true)
	checkState(t, "too much Data", state(1, 0, log(0, 0, append(many, many[0])...), ""), false)
}

// TestVoters: P14.1: there are up to 7 voters, from 1 to 9, which rise.
func TestVoters(t *testing.T) {
	for _, x := range []struct {
		voters []int
		valid  bool
	}{
		{nil, true},
		{[]int{}, true},
		{[]int{1}, true},
		{[]int{5}, true},
		{[]int{9}, true},
		{[]int{0}, false},
		{[]int{10}, false},
		{[]int{-1}, false},
		{[]int{1, 2}, true},
		{[]int{1, 9}, true},
		{[]int{8, 9}, true},
		{[]int{9, 10}, false},
		{[]int{0, 1}, false},
		{[]int{1, 1}, false},
		{[]int{9, 9}, false},
		{[]int{2, 1}, false},
		{[]int{9, 1}, false},
		{[]int{1, 0}, false},
		{[]int{1, 2, 3}, true},
		{[]int{1, 2, 2}, false},
		{[]int{1, 1, 2}, false},
		{[]int{1, 3, 2}, false},
		{[]int{2, 1, 3}, false},
		{[]int{1, 2, 3, 4, 5, 6, 7}, true},
		{[]int{3, 4, 5, 6, 7, 8, 9}, true},
		{[]int{1, 2, 3, 4, 5, 6, 7, 8}, false},
		{[]int{2, 3, 4, 5, 6, 7, 8, 9}, false},
		{[]int{1, 2, 3, 4, 5, 6, 7, 8, 9}, false},
		{[]int{1, 2, 3, 4, 5, 6, 6}, false},
		{[]int{1, 2, 3, 4, 5, 6, 10}, false},
		{slices.Repeat([]int{1}, 8), false},
	} {
		checkState(t, "voters", state(0, 0, log(0, 0), "", x.voters...), x.valid)
		checkState(t, "voters", state(3, 9, log(3, 2, some(2, 2)...), "snap", x.voters...), x.valid)
	}
	for _, id := range append(odd(), 11, 99, top) {
		checkState(t, "a voter", state(0, 0, log(0, 0), "", id), false)
		checkState(t, "a voter", state(0, 0, log(0, 0), "", 1, id), false)
		checkState(t, "a voter", state(0, 0, log(0, 0), "", id, 9), false)
	}
	checkRight(t, "far too many", state(0, 0, log(0, 0), "", make([]int, 50000)...), false)
}

// TestBytes: P14.1: an encoding has up to 131072 bytes, whatever they are for.
func TestBytes(t *testing.T) {
	for _, n := range []int{1000, 60000, 131000, 131071, 131072} {
		checkState(t, "bytes", sized(t, 3, n), true)
	}
	for _, n := range []int{131073, 131074, 140000, 1 << 20} {
		checkState(t, "too many bytes", sized(t, 3, n), false)
		checkGet(t, "too many bytes", writtenState(sized(t, 3, n)), api.Hard{}, api.ErrLong)
	}
	h := state(1, 0, log(0, 0, slices.Repeat([]api.Record{record(1, 1, letters(8192))}, 15)...), "")
	left := 131072 - len(writtenState(h))
	for more := left - 20; more < left+20; more++ {
		h.Snap = letters(more)
		checkState(t, "bytes of Snap", h, len(writtenState(h)) <= 131072)
		h.Snap = ""
		h.Log.Records = append(h.Log.Records[:15], record(1, 1, letters(more-10)))
		checkState(t, "bytes of Data", h, len(writtenState(h)) <= 131072)
		h.Log.Records = h.Log.Records[:15]
	}
	full := sized(t, 3, 131072)
	full.Voters = append(full.Voters, 3)
	checkState(t, "a voter more", full, false)
	full.Voters = full.Voters[:1]
	checkState(t, "a voter less", full, true)
	full = sized(t, 3, 131072)
	full.Term = 10
	checkState(t, "a digit more", full, false)
	full = sized(t, 10, 131072)
	full.Term = 9
	checkState(t, "a digit less", full, true)
}
