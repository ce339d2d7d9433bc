package store_test

import (
	"crypto/sha256"
	"math"
	"slices"
	"strconv"
	"strings"
	"testing"

	"hornbook/api"
	"hornbook/store"
)

// key is 32 bytes that begin and end with those given.
func key(first, last byte) string {
	return string([]byte{first}) + strings.Repeat("k", 30) + string([]byte{last})
}

// TestExamples: the chapter's table, by P6.2 to P6.4.
func TestExamples(t *testing.T) {
	a := leaf("a")
	checkPut(t, "once", api.Store{}, "a", listed(whole("a", 1)), a, api.OK)
	checkPut(t, "twice", listed(whole("a", 1)), "a", listed(whole("a", 2)), a, api.OK)
	checkDrop(t, "once", listed(whole("a", 2)), a, listed(whole("a", 1)), api.OK)
	checkDrop(t, "twice", listed(whole("a", 1)), a, listed(whole("a", 0)), api.OK)
	checkDrop(t, "three times", listed(whole("a", 0)), a, api.Store{}, api.ErrKey)
	checkGet(t, "behind two drops", listed(whole("a", 0)), a, "a", api.OK)
	checkSweep(t, "behind two drops", listed(whole("a", 0)), api.Store{}, api.OK)
	checkGet(t, "behind Sweep", api.Store{}, a, "", api.ErrKey)
}

// TestKeyWrittenOut: P6.2, P6.4: the key of a body, its digest behind a byte 0, byte by byte.
func TestKeyWrittenOut(t *testing.T) {
	const a = "\x02\x2a\x69\x79\xe6\xda\xb7\xaa\x5a\xe4\xc3\xe5\xe4\x5f\x7e\x97\x71\x12\xa7\xe6\x35\x93\x82\x0d\xbe\xc1\xec\x73\x8a\x24\xf9\x3c"
	checkPut(t, "written out", api.Store{}, "a", listed(under(a, "a", 1)), a, api.OK)
	checkGet(t, "written out", listed(under(a, "a", 1)), a, "a", api.OK)
}

// rightStores are valid, with whatever keys, bodies and counts may be.
func rightStores() map[string]api.Store {
	return map[string]api.Store{
		"nil":                      {},
		"empty":                    {Items: []api.Item{}},
		"one item":                 some(1),
		"two items":                some(2),
		"three items":              some(3),
		"4095 items":               some(4095),
		"4096 items":               some(4096),
		"a body of 1":              listed(whole("x", 1)),
		"a body of 511":            listed(whole(text(511), 1)),
		"a body of 512":            listed(whole(text(512), 1)),
		"a body of zero bytes":     listed(whole(strings.Repeat("\x00", 512), 1)),
		"256 characters":           listed(whole(strings.Repeat("ä", 256), 1)),
		"no characters":            listed(whole("\xff\xfe\x80", 1)),
		"not held":                 listed(whole("a", 0)),
		"held once":                listed(whole("a", 1)),
		"held 2^30 - 1 times":      listed(whole("a", most-1)),
		"held 2^30 times":          listed(whole("a", most)),
		"all counts":               sorted(whole("a", 0), whole("b", 1), whole("c", most-1), whole("d", most)),
		"another last byte":        listed(under(key('k', 'a'), "x", 1), under(key('k', 'b'), "x", 1)),
		"another first byte":       listed(under(key('a', 'k'), "x", 1), under(key('b', 'k'), "x", 1)),
		"the first byte counts":    listed(under(key('a', 'b'), "x", 1), under(key('b', 'a'), "x", 1)),
		"127, then 128":            listed(under(key(127, 0), "x", 1), under(key(128, 0), "x", 1)),
		"128 as the last byte":     listed(under(key('k', 127), "x", 1), under(key('k', 128), "x", 1), under(key('k', 255), "x", 1)),
		"zeros to the greatest":    listed(under(strings.Repeat("\x00", 32), "x", 1), under(strings.Repeat("\xff", 32), "x", 1)),
		"corrupt, held":            listed(under(leaf("a"), "b", 1)),
		"corrupt, not held":        listed(under(leaf("a"), "b", 0)),
		"corrupt, held 2^30 times": listed(under(leaf("a"), "b", most)),
		"one body under two keys":  sorted(whole("a", 1), under(leaf("b"), "a", 1)),
		"bodies exchanged":         sorted(under(leaf("a"), "b", 1), under(leaf("b"), "a", 0), whole("c", 1)),
		"corrupt among 4096":       with(some(4096), 2000, under(some(4096).Items[2000].Key, "y", 0)),
	}
}

// wrongItems may be in no store, and each of them could stand alone in one if it were right.
func wrongItems() map[string]api.Item {
	items := map[string]api.Item{}
	for _, n := range []int{0, 1, 31, 33, 64, 1 << 16} {
		items["a key of "+strconv.Itoa(n)] = under(text(n), "x", 1)
	}
	for _, n := range []int{0, 513, 514, 1024, 1 << 16} {
		items["a body of "+strconv.Itoa(n)] = whole(text(n), 1)
	}
	for _, n := range []int{-1, -2, -most, most + 1, 2 * most, math.MaxInt32, math.MinInt32, 1 << 32, 1<<32 + 1, math.MaxInt, math.MinInt} {
		items["refs "+strconv.Itoa(n)] = whole("x", n)
	}
	items["32 characters"] = under(strings.Repeat("ä", 32), "x", 1)
	items["digits of a key"] = under(strings.Repeat("0a", 32), "x", 1)
	items["257 characters"] = whole(strings.Repeat("ä", 257), 1)
	items["nothing"] = api.Item{}
	return items
}

// wrongStores are not valid.
func wrongStores() map[string]api.Store {
	k := some(3).Items
	stores := map[string]api.Store{
		"4097 items":                 some(4097),
		"5000 items":                 some(5000),
		"4097 times nothing":         {Items: make([]api.Item, 4097)},
		"one item twice":             listed(k[0], k[0]),
		"one key, other bodies":      listed(k[0], under(k[0].Key, "y", 2)),
		"the last one twice":         listed(k[0], k[1], k[1]),
		"falling":                    listed(k[1], k[0]),
		"falling at the end":         listed(k[0], k[2], k[1]),
		"the first one last":         listed(k[1], k[2], k[0]),
		"128, then 127":              listed(under(key(128, 0), "x", 1), under(key(127, 0), "x", 1)),
		"127 behind 255 at the end":  listed(under(key('k', 255), "x", 1), under(key('k', 127), "x", 1)),
		"the first byte counts":      listed(under(key('b', 'a'), "x", 1), under(key('a', 'b'), "x", 1)),
		"falling in the last byte":   listed(under(key('k', 'b'), "x", 1), under(key('k', 'a'), "x", 1)),
		"4096, the last twice":       with(some(4096), 4095, some(4096).Items[4094]),
		"4096, falling at the start": with(some(4096), 0, under(strings.Repeat("\xff", 32), "x", 1)),
	}
	for name, item := range wrongItems() {
		stores[name] = listed(item)
		// Beside the others its key is at its place, so that only its own fault counts.
		stores[name+", sorted"] = sorted(item, k[0], k[1])
		stores[name+", first"] = listed(item, under(strings.Repeat("\xff", 32), "x", 1))
		stores[name+", beside a corrupt one"] = sorted(item, under(leaf("b"), "c", 1))
	}
	big := some(4096)
	for _, at := range []int{0, 2000, 4095} {
		x := big.Items[at]
		stores["no body among 4096 at "+strconv.Itoa(at)] = with(big, at, under(x.Key, "", 1))
		stores["refs -1 among 4096 at "+strconv.Itoa(at)] = with(big, at, under(x.Key, x.Body, -1))
		stores["31 bytes among 4096 at "+strconv.Itoa(at)] = with(big, at, under(x.Key[:31], x.Body, 1))
	}
	return stores
}

// TestRight: P6.1: what is valid, and what is not.
func TestRight(t *testing.T) {
	for name, s := range rightStores() {
		checkRight(t, name, s, true)
	}
	for name, s := range wrongStores() {
		checkRight(t, name, s, false)
	}
}

// TestWrongStores: P6.1 to P6.4: of a store that is not valid nothing is told but ErrArg, whatever else is wrong.
func TestWrongStores(t *testing.T) {
	for name, s := range wrongStores() {
		checkRotten(t, name, s)
		checkSweep(t, name, s, api.Store{}, api.ErrArg)
		for _, body := range []string{"", "0", "x", "not there", text(512), text(513), text(1 << 16)} {
			checkPut(t, name, s, body, api.Store{}, "", api.ErrArg)
		}
		for _, k := range []string{"", "x", leaf("0"), leaf("x"), leaf("b"), key('k', 'a'), s.Items[0].Key, text(33)} {
			checkDrop(t, name, s, k, api.Store{}, api.ErrArg)
			checkGet(t, name, s, k, "", api.ErrArg)
		}
	}
}

// TestAsDefined: P6.1 to P6.4 for all kinds of stores, with keys and bodies that are there and that are not.
func TestAsDefined(t *testing.T) {
	bodies := []string{"", "a", "b", "c", "x", "0", "1", "4095", "4096", "\x00", "\xff\xfe\x80", text(511), text(512), text(513), strings.Repeat("ä", 256), strings.Repeat("ä", 257)}
	keys := []string{"", "a", text(31), text(33), text(32), strings.Repeat("\x00", 32), strings.Repeat("\xff", 32), key('k', 'a'), key('k', 128), key(127, 0), key(128, 0)}
	for _, body := range bodies {
		keys = append(keys, leaf(body))
	}
	for name, s := range rightStores() {
		checkDefined(t, name, s, bodies, keys)
	}
	for name, s := range wrongStores() {
		checkDefined(t, name, s, bodies[:3], keys[:3])
	}
}

// TestRotten: P6.1: the corrupt ones alone, held or not, in the order of their keys.
func TestRotten(t *testing.T) {
	low, high := strings.Repeat("\x00", 32), strings.Repeat("\xff", 32)
	checkRotten(t, "no items", api.Store{})
	checkRotten(t, "none is corrupt", some(100))
	checkRotten(t, "held", listed(under(low, "a", 1)), low)
	checkRotten(t, "not held", listed(under(low, "a", 0)), low)
	checkRotten(t, "around a whole one", listed(under(low, "a", 1), whole("a", 1), under(high, "b", 0)), low, high)
	checkRotten(t, "one bit of the key", listed(under(flipped(leaf("a"), 255), "a", 1)), flipped(leaf("a"), 255))
	bare := sha256.Sum256([]byte("a"))
	checkRotten(t, "the digest of the body without a byte 0", listed(under(string(bare[:]), "a", 1)), string(bare[:]))
	all := some(4096)
	var keys []string
	for i, x := range all.Items {
		all.Items[i].Body = x.Body + "."
		keys = append(keys, x.Key)
	}
	checkRotten(t, "all of 4096", all, keys...)
	checkRotten(t, "beside an invalid one", listed(under(low, "a", 1), under(high, "", 1)))
	checkRotten(t, "alone, and invalid", listed(under(low, "a", -1)))
}

// flipped changes one bit of a string.
func flipped(s string, bit int) string {
	b := []byte(s)
	b[bit/8] ^= 1 << (bit % 8)
	return string(b)
}

// TestPutPlaces: P6.2: a new item goes to its place, at the beginning, in the middle or at the end, and an item that is there is counted there.
func TestPutPlaces(t *testing.T) {
	for _, n := range []int{1, 2, 3, 4, 5, 8, 9, 100} {
		s := some(n)
		for i, x := range s.Items {
			others := listed(slices.Delete(slices.Clone(s.Items), i, i+1)...)
			checkPut(t, "new at "+strconv.Itoa(i), others, x.Body, s, x.Key, api.OK)
			checkPut(t, "there at "+strconv.Itoa(i), s, x.Body, with(s, i, whole(x.Body, 2)), x.Key, api.OK)
		}
	}
}

// TestPutLengths: P6.2: bodies of 1 to 512 bytes go in; the empty one and longer ones do not, full store or not.
func TestPutLengths(t *testing.T) {
	for _, n := range []int{1, 2, 31, 32, 33, 511, 512} {
		checkPut(t, "a length", api.Store{}, text(n), listed(whole(text(n), 1)), leaf(text(n)), api.OK)
	}
	full := some(4096)
	for _, s := range []api.Store{{}, {Items: []api.Item{}}, some(1), full, listed(under(leaf(""), "x", 1)), listed(under(leaf(text(513)), "x", most))} {
		checkPut(t, "empty", s, "", api.Store{}, "", api.ErrArg)
		for _, n := range []int{513, 514, 1024, 1 << 20} {
			checkPut(t, "too long", s, text(n), api.Store{}, "", api.ErrLong)
		}
		checkPut(t, "too long in bytes", s, strings.Repeat("ä", 257), api.Store{}, "", api.ErrLong)
	}
}

// TestPutCounts: P6.2: the count of an item up to its end, and that being corrupt goes ahead of it.
func TestPutCounts(t *testing.T) {
	a := leaf("a")
	for _, n := range []int{0, 1, 2, 1000, most - 2, most - 1} {
		checkPut(t, "a count", listed(whole("a", n)), "a", listed(whole("a", n+1)), a, api.OK)
	}
	checkPut(t, "2^30", listed(whole("a", most)), "a", api.Store{}, "", api.ErrFull)
	for _, n := range []int{0, 1, most - 1, most} {
		checkPut(t, "corrupt", listed(under(a, "b", n)), "a", api.Store{}, "", api.ErrRot)
		// Where a body lies under another key does not matter.
		checkPut(t, "another is corrupt", listed(under(a, "b", n)), "b", sorted(under(a, "b", n), whole("b", 1)), leaf("b"), api.OK)
		checkPut(t, "another is full", sorted(whole("a", most), whole("b", n/2)), "b", sorted(whole("a", most), whole("b", n/2+1)), leaf("b"), api.OK)
	}
}

// TestPutFull: P6.2: a full store counts what it has and takes nothing new; one item less, and it does.
func TestPutFull(t *testing.T) {
	full := some(4096)
	for _, at := range []int{0, 1, 2047, 2048, 4094, 4095} {
		x := full.Items[at]
		checkPut(t, "there", full, x.Body, with(full, at, whole(x.Body, 2)), x.Key, api.OK)
		checkPut(t, "there, not held", with(full, at, whole(x.Body, 0)), x.Body, full, x.Key, api.OK)
		checkPut(t, "there, 2^30", with(full, at, whole(x.Body, most)), x.Body, api.Store{}, "", api.ErrFull)
		checkPut(t, "there, corrupt", with(full, at, under(x.Key, "y", 1)), x.Body, api.Store{}, "", api.ErrRot)
		checkPut(t, "new, beside one that is not held", with(full, at, whole(x.Body, 0)), "new", api.Store{}, "", api.ErrFull)
		less := listed(slices.Delete(slices.Clone(full.Items), at, at+1)...)
		checkPut(t, "the last place", less, x.Body, full, x.Key, api.OK)
	}
	checkPut(t, "new", full, "new", api.Store{}, "", api.ErrFull)
	checkPut(t, "new, 512 bytes", full, text(512), api.Store{}, "", api.ErrFull)
}

// TestDrop: P6.3: one reference less of the item with the key, wherever it is, whole or corrupt.
func TestDrop(t *testing.T) {
	for _, n := range []int{1, 2, 3, 4, 5, 9, 4096} {
		s := some(n)
		for _, i := range []int{0, n / 3, n / 2, n - 1} {
			x := s.Items[i]
			checkDrop(t, "there", s, x.Key, with(s, i, whole(x.Body, 0)), api.OK)
			checkDrop(t, "corrupt", with(s, i, under(x.Key, "y", 5)), x.Key, with(s, i, under(x.Key, "y", 4)), api.OK)
			checkDrop(t, "corrupt, not held", with(s, i, under(x.Key, "y", 0)), x.Key, api.Store{}, api.ErrKey)
			checkDrop(t, "not held", with(s, i, whole(x.Body, 0)), x.Key, api.Store{}, api.ErrKey)
		}
	}
	for _, n := range []int{1, 2, 3, most - 1, most} {
		checkDrop(t, "a count", listed(whole("a", n)), leaf("a"), listed(whole("a", n-1)), api.OK)
	}
}

// absent are keys that some(3) does not have: between its own, around them, and such as are no keys.
func absent() map[string]string {
	k := some(3).Items
	return map[string]string{
		"empty":            "",
		"another":          leaf("not there"),
		"the body":         "0",
		"below all":        strings.Repeat("\x00", 32),
		"above all":        strings.Repeat("\xff", 32),
		"just below":       flipped(k[1].Key, 248),
		"another bit":      flipped(k[0].Key, 0),
		"one byte less":    k[1].Key[:31],
		"one byte more":    k[1].Key + "\x00",
		"one ahead of it":  "\x00" + k[1].Key,
		"longer, the last": k[2].Key + "x",
		"twice":            k[0].Key + k[0].Key,
		"very long":        text(1 << 20),
	}
}

// TestAbsent: P6.3, P6.4: a key that is not there, in stores of all small sizes.
func TestAbsent(t *testing.T) {
	for name, k := range absent() {
		for n := range 4 {
			checkDrop(t, name, some(n), k, api.Store{}, api.ErrKey)
			checkGet(t, name, some(n), k, "", api.ErrKey)
		}
		checkDrop(t, name, some(4096), k, api.Store{}, api.ErrKey)
		checkGet(t, name, some(4096), k, "", api.ErrKey)
	}
	for _, s := range []api.Store{{}, {Items: []api.Item{}}} {
		checkDrop(t, "no items", s, leaf("a"), api.Store{}, api.ErrKey)
		checkGet(t, "no items", s, leaf("a"), "", api.ErrKey)
		checkSweep(t, "no items", s, api.Store{}, api.OK)
	}
}

// TestSweep: P6.3: only what is held stays, in its order; what is corrupt stays if it is held.
func TestSweep(t *testing.T) {
	s := some(6)
	for kept := range 1 << 6 {
		from, want := some(6), api.Store{}
		for i, x := range s.Items {
			if kept>>i&1 == 0 {
				from.Items[i].Refs = 0
				continue
			}
			want.Items = append(want.Items, x)
		}
		checkSweep(t, "of six", from, want, api.OK)
	}
	for _, n := range []int{1, 2, most - 1, most} {
		checkSweep(t, "held", listed(whole("a", n)), listed(whole("a", n)), api.OK)
	}
	low, high := strings.Repeat("\x00", 32), strings.Repeat("\xff", 32)
	checkSweep(t, "corrupt", listed(under(low, "a", 1), whole("a", 0), under(high, "b", 0)), listed(under(low, "a", 1)), api.OK)
	full := some(4096)
	checkSweep(t, "4096, all held", full, full, api.OK)
	none := some(4096)
	for i := range none.Items {
		none.Items[i].Refs = 0
	}
	checkSweep(t, "4096, none held", none, api.Store{}, api.OK)
	checkSweep(t, "4096, the last one held", with(none, 4095, full.Items[4095]), listed(full.Items[4095]), api.OK)
}

// TestGet: P6.4: a body from every place, held or not, and ErrRot for a corrupt item alone.
func TestGet(t *testing.T) {
	for _, n := range []int{1, 2, 3, 4, 5, 9, 100} {
		s := some(n)
		for i, x := range s.Items {
			for _, refs := range []int{0, 1, most} {
				checkGet(t, "there", with(s, i, whole(x.Body, refs)), x.Key, x.Body, api.OK)
				checkGet(t, "corrupt", with(s, i, under(x.Key, "y", refs)), x.Key, "", api.ErrRot)
			}
			if n > 1 {
				beside := s.Items[(i+1)%n]
				checkGet(t, "beside a corrupt one", with(s, i, under(x.Key, "y", 1)), beside.Key, beside.Body, api.OK)
			}
		}
	}
	for _, n := range []int{1, 511, 512} {
		checkGet(t, "a length", listed(whole(text(n), 1)), leaf(text(n)), text(n), api.OK)
	}
	full := some(4096)
	for _, i := range []int{0, 1, 2047, 2048, 4094, 4095} {
		checkGet(t, "of 4096", full, full.Items[i].Key, full.Items[i].Body, api.OK)
	}
}

// TestNotHeld: P6.2 to P6.4: an item that is not held is no item to drop, but one to get and to put again, until it is swept.
func TestNotHeld(t *testing.T) {
	a := leaf("a")
	s := sorted(whole("a", 0), whole("b", 3))
	checkDrop(t, "not held", s, a, api.Store{}, api.ErrKey)
	checkGet(t, "not held", s, a, "a", api.OK)
	checkPut(t, "not held", s, "a", sorted(whole("a", 1), whole("b", 3)), a, api.OK)
	checkSweep(t, "not held", s, listed(whole("b", 3)), api.OK)
	swept, e := store.Sweep(s)
	if e != api.OK {
		t.Fatalf("Sweep answers %d", e)
	}
	checkDrop(t, "swept", swept, a, api.Store{}, api.ErrKey)
	checkGet(t, "swept", swept, a, "", api.ErrKey)
	checkPut(t, "swept", swept, "a", sorted(whole("a", 1), whole("b", 3)), a, api.OK)
}

// TestEarlierAnswers: R4: what was answered once is not changed by a later call that is given it.
func TestEarlierAnswers(t *testing.T) {
	var s api.Store
	var answers, copies []api.Store
	keep := func(next api.Store, e api.Errno) {
		t.Helper()
		if e != api.OK {
			t.Fatalf("a call answers %d", e)
		}
		s = next
		answers, copies = append(answers, next), append(copies, listed(slices.Clone(next.Items)...))
	}
	for i := range 40 {
		put, k, e := store.Put(s, strconv.Itoa(i%23))
		keep(put, e)
		if i%3 == 0 {
			keep(store.Drop(s, k))
		}
		if i%7 == 0 {
			keep(store.Sweep(s))
		}
	}
	for i := range answers {
		if !same(answers[i], copies[i]) {
			t.Errorf("answer %d is changed by a later call", i)
		}
	}
}
