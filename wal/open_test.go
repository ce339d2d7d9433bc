package wal_test

import (
	"slices"
	"strings"
	"testing"

	"hornbook/api"
)

// opened looks at a file log, as it may stand in a file, that tells a state and needs no rewriting.
func opened(t *testing.T, name, bytes string, want api.Hard) {
	t.Helper()
	half := len(bytes) / 2
	for _, f := range []api.File{file("log", bytes, ""), file("log", "", bytes), file("log", bytes[:half], bytes[half:])} {
		for _, left := range []int{-1, 0, 3} {
			d := plate(len(bytes), left, f)
			checkOpen(t, name, d, d, want, api.OK)
		}
		d := roomy(file("a", "", "1"), f, file("log.new", "2", "3"), file("z", "4", ""))
		checkOpen(t, name+", among other files", d, d, want, api.OK)
	}
}

// rotten looks at a file log that tells no state, whatever follows it.
func rotten(t *testing.T, name string, bytes string) {
	t.Helper()
	// The checksums of long files take long.
	if len(bytes) > 50000 {
		d := roomy(file("log", bytes, ""))
		checkOpen(t, name, d, d, api.Hard{}, api.ErrRot)
		return
	}
	half := len(bytes) / 2
	for _, behind := range []string{"", "x", framed("le")[:9]} {
		for _, f := range []api.File{file("log", bytes, behind), file("log", "", bytes+behind), file("log", bytes[:half], bytes[half:]+behind)} {
			for _, left := range []int{-1, 0, 3} {
				d := plate(roomiest, left, f)
				checkOpen(t, name, d, d, api.Hard{}, api.ErrRot)
			}
			d := roomy(f, file("log.new", logOf(first()), ""))
			checkOpen(t, name+", beside a good file", d, d, api.Hard{}, api.ErrRot)
		}
	}
}

// TestOpenNothing: P14.3 without a file log: the zero state, whatever else there is.
func TestOpenNothing(t *testing.T) {
	for _, left := range []int{-1, 0, 7} {
		for _, files := range [][]api.File{
			nil, {},
			{file("log.new", logOf(first()), "")},
			{file("log.new", "", "x")},
			{file("lo", "x", ""), file("log.", "", ""), file("log0", logOf(first()), "y"), file("logs", "", "")},
			{file("a", "", "b"), file("l.og", "c", "d")},
		} {
			d := plate(roomiest, left, files...)
			checkOpen(t, "no file", d, d, api.Hard{}, api.OK)
		}
	}
	d := plate(0, 0)
	checkOpen(t, "no room", d, d, api.Hard{}, api.OK)
}

// TestOpenChanges: P14.3 for an image and changes, which are made in their order.
func TestOpenChanges(t *testing.T) {
	a, b, c := first().Log.Records[0], first().Log.Records[1], first().Log.Records[2]
	opened(t, "an image", logOf(first()), first())
	opened(t, "an image of nothing", logOf(api.Hard{}), api.Hard{})
	opened(t, "a change of nothing", logOf(first(), "li5ei2ei6elee"), first())
	opened(t, "a Term", logOf(first(), "li6ei2ei6elee"), but(func(h *api.Hard) { h.Term = 6 }))
	opened(t, "a lesser Term", logOf(first(), "li4ei2ei6elee"), but(func(h *api.Hard) { h.Term = 4 }))
	opened(t, "a Vote", logOf(first(), "li5ei9ei6elee"), but(func(h *api.Hard) { h.Vote = 9 }))
	opened(t, "the last of two", logOf(first(), "li6ei2ei6elee", "li7ei0ei6elee"), but(func(h *api.Hard) { h.Term, h.Vote = 7, 0 }))
	opened(t, "the lesser of two", logOf(first(), "li7ei0ei6elee", "li6ei2ei6elee"), but(func(h *api.Hard) { h.Term = 6 }))
	opened(t, "there and back", logOf(first(), "li7ei0ei3elee", writtenChange(5, 2, 3, a, b, c)), first())
	opened(t, "Keep at Base", logOf(first(), "li5ei2ei3elee"), records())
	opened(t, "Keep behind Base", logOf(first(), "li5ei2ei4elee"), records(a))
	opened(t, "Keep ahead of the last index", logOf(first(), "li5ei2ei5elee"), records(a, b))
	opened(t, "Keep at the last index", logOf(first(), writtenChange(5, 2, 6, record(5, 0, "m"))), records(a, b, c, record(5, 0, "m")))
	opened(t, "Keep and records", logOf(first(), writtenChange(5, 2, 4, record(5, 0, "m"), record(5, 1, "n"))), records(a, record(5, 0, "m"), record(5, 1, "n")))
	opened(t, "the same records again", logOf(first(), writtenChange(5, 2, 4, b, c)), first())
	opened(t, "records one by one", logOf(records(), writtenChange(5, 2, 3, a), writtenChange(5, 2, 4, b), writtenChange(5, 2, 5, c)), first())
	opened(t, "less and less", logOf(first(), "li5ei2ei5elee", "li5ei2ei4elee", "li5ei2ei3elee"), records())
	opened(t, "a Keep that was not there at first", logOf(first(), writtenChange(5, 2, 6, c), "li5ei2ei7elee"), records(a, b, c, c))
	full := state(1, 0, log(0, 0, some(200, 1)...), "")
	opened(t, "200 records", logOf(full, writtenChange(1, 0, 199, record(1, 2, "last"))), state(1, 0, log(0, 0, append(some(199, 1), record(1, 2, "last"))...), ""))
	opened(t, "200 new ones", logOf(full, writtenChange(2, 0, 0, some(200, 2)...)), state(2, 0, log(0, 0, some(200, 2)...), ""))
	last := state(1, 0, log(top-1, 1), "")
	opened(t, "the last index that there is", logOf(last, writtenChange(1, 0, top-1, record(1, 0, ""))), state(1, 0, log(top-1, 1, record(1, 0, "")), ""))
	opened(t, "behind the last index", logOf(state(1, 0, log(top, 1), ""), "li1ei1ei1073741824elee"), state(1, 1, log(top, 1), ""))
	long := make([]string, 1000)
	for i := range long {
		long[i] = writtenChange(5+i, i%10, 6)
	}
	opened(t, "1000 changes", logOf(first(), long...), but(func(h *api.Hard) { h.Term, h.Vote = 1004, 9 }))
}

// TestOpenWrongKeeps: P14.3 for a Keep below Base or above the last index, be it that of an earlier state.
func TestOpenWrongKeeps(t *testing.T) {
	for _, keep := range []int{-top, -3, -1, 0, 1, 2, 7, 8, 100, 206, top, top + 1, 1 << 32, 1<<32 + 3, 1<<62 + 3} {
		rotten(t, "a wrong Keep", logOf(first(), writtenChange(5, 2, keep)))
		rotten(t, "a wrong Keep, and records", logOf(first(), writtenChange(5, 2, keep, record(5, 0, ""))))
		rotten(t, "a wrong Keep, and a good one", logOf(first(), writtenChange(5, 2, keep), writtenChange(5, 2, 3)))
		rotten(t, "a good Keep, and a wrong one", logOf(first(), writtenChange(5, 2, 3), writtenChange(5, 2, keep)))
	}
	for _, keep := range []int{4, 5, 6} {
		rotten(t, "a Keep that is no longer there", logOf(first(), writtenChange(5, 2, 3), writtenChange(5, 2, keep)))
	}
	rotten(t, "a Keep without records", logOf(api.Hard{Term: 1}, "li1ei0ei1elee"))
	rotten(t, "a Keep below a Base", logOf(state(1, 0, log(1, 1), ""), "li1ei0ei0elee"))
	rotten(t, "a Keep above the last index", logOf(state(1, 0, log(top, 1), ""), "li1ei0ei1073741825elee"))
}

// TestOpenInvalidChanges: P14.3 for changes that make a state that is not valid, be it valid again later.
func TestOpenInvalidChanges(t *testing.T) {
	for name, body := range map[string]string{
		"a Term of -1":                 "li-1ei2ei3elee",
		"a Term above":                 "li1073741825ei2ei6elee",
		"a Term below the BaseTerm":    "li0ei2ei3elee",
		"a Term below a record's":      "li3ei2ei6elee",
		"a Term below a new record's":  writtenChange(5, 2, 6, record(6, 0, "")),
		"a Vote of -1":                 "li5ei-1ei6elee",
		"a Vote of 10":                 "li5ei10ei6elee",
		"a record's Term below":        writtenChange(5, 2, 6, record(3, 0, "")),
		"a record's Term of 0":         writtenChange(5, 2, 3, record(0, 0, "")),
		"a falling Term":               writtenChange(5, 2, 6, record(5, 0, ""), record(4, 0, "")),
		"a Kind of 3":                  writtenChange(5, 2, 6, record(5, 3, "")),
		"a Kind of -1":                 writtenChange(5, 2, 6, record(5, -1, "")),
		"Data of 8193 bytes":           writtenChange(5, 2, 6, record(5, 0, letters(8193))),
		"too many records":             writtenChange(5, 2, 6, some(198, 5)...),
		"far too many records":         writtenChange(5, 2, 3, some(201, 5)...),
		"a number that no int need be": "li4294967301ei2ei6elee",
	} {
		rotten(t, name, logOf(first(), body))
		rotten(t, name+", and a good one", logOf(first(), body, "li5ei2ei3elee"))
		rotten(t, name+", behind a good one", logOf(first(), "li5ei2ei6elee", body))
	}
	opened(t, "as many records as may be", logOf(first(), writtenChange(5, 2, 6, some(197, 5)...)), but(func(h *api.Hard) { h.Log.Records = append(h.Log.Records, some(197, 5)...) }))
	opened(t, "Data of 8192 bytes", logOf(first(), writtenChange(5, 2, 3, record(5, 0, letters(8192)))), records(record(5, 0, letters(8192))))
	rotten(t, "an index above 2^30", logOf(state(1, 0, log(top, 1), ""), writtenChange(1, 0, top, record(1, 0, ""))))
	rotten(t, "a BaseTerm above the Term", logOf(state(3, 0, log(9, 2), ""), "li1ei0ei9elee"))
	opened(t, "a Term of 0", logOf(state(3, 0, log(0, 0), ""), "li0ei0ei0elee"), api.Hard{})
	for _, more := range []int{131071, 131072, 131073, 132000} {
		h := state(1, 0, log(0, 0), letters(124000))
		n := more - len(writtenState(h)) - len("li1ei1e7000:e")
		body := writtenChange(1, 0, 0, record(1, 1, letters(n)))
		if len(writtenState(h))+len("li1ei1e7000:e")+n != more {
			t.Fatalf("%d bytes are not to be had", more)
		}
		if more <= 131072 {
			opened(t, "many bytes", logOf(h, body), state(1, 0, log(0, 0, record(1, 1, letters(n))), h.Snap))
		} else {
			rotten(t, "too many bytes", logOf(h, body))
			rotten(t, "too many bytes for a while", logOf(h, body, "li1ei0ei0elee"))
		}
	}
}

// TestOpenNoChanges: P14.3 for bodies behind the image that are no changes.
func TestOpenNoChanges(t *testing.T) {
	for _, body := range []string{
		"", "x", "e", "l", "le", "i1e", "0:", "4:abcd", "li5ei2ei6ele", "li5ei2ei6elee ", "li5ei2ei6eleee", "xli5ei2ei6elee",
		"li5ei2ei6ee", "li5ei2elee", "li5ei2ei6elelee", "li5ei2ei6elei0ee", "lli5ei2ei6eleee", "li5ei2ei6ei0ee", "li5ei2ei6e0:e", "li5ei2ei6e2:lee",
		"l1:5i2ei6elee", "li5e1:2i6elee", "li5ei2e1:6lee", "llei2ei6elee", "li5elei6elee", "li5ei2elelee", "l0:i2ei6elee",
		"li05ei2ei6elee", "li5ei-0ei6elee", "li9223372036854775808ei2ei6elee",
		"li5ei2ei6eli0eee", "li5ei2ei6el0:ee", "li5ei2ei6elleee", "li5ei2ei6elli5ei0eeee", "li5ei2ei6elli5ei0e0:i0eeee", "li5ei2ei6elli5ei0e0:0:eee", "li5ei2ei6elli5ei0ei0eeee",
		"li5ei2ei6elli5e1:00:eee", "li5ei2ei6ell1:5i0e0:eee", "li5ei2ei6elli5ei0eleeee", "li5ei2ei6elli5ei0e0:ei0eee", "li5ei2ei6eli5ei0e0:ee",
		writtenState(first()), writtenState(api.Hard{}), letters(65536),
	} {
		rotten(t, "no change", logOf(first(), body))
		rotten(t, "no change of what has no Base", logOf(state(6, 2, log(0, 0, some(6, 5)...), ""), body))
		rotten(t, "no change of nothing", logOf(api.Hard{}, body))
		rotten(t, "no change behind one", logOf(first(), "li5ei2ei6elee", body))
		rotten(t, "no change ahead of one", logOf(first(), body, "li5ei2ei6elee"))
	}
	opened(t, "a change", logOf(state(6, 2, log(0, 0, some(6, 5)...), ""), "li5ei2ei6elee"), state(5, 2, log(0, 0, some(6, 5)...), ""))
	rotten(t, "an image behind another", logOf(first())+logOf(first()))
	rotten(t, "an image behind a change", logOf(first(), "li5ei2ei6elee")+logOf(api.Hard{}))
	rotten(t, "a change of one record", logOf(first(), "li5ei2ei6eli5ei0e0:ee"))
}

// TestOpenNoImages: P14.3 for files whose bodies do not begin with an image.
func TestOpenNoImages(t *testing.T) {
	s, change := writtenState(first()), "li5ei2ei6elee"
	for name, bytes := range map[string]string{
		"an empty file":               "",
		"bytes that are no frame":     "x",
		"a state without a frame":     s,
		"a frame cut off":             framed("i1e")[:14],
		"one frame alone":             framed("i1e"),
		"an empty frame alone":        framed(""),
		"a state alone":               framed(s),
		"a state, and a number":       framed(s, "i1e"),
		"a change alone":              framed(change),
		"a change ahead":              framed(change, "i1e", s),
		"an empty body":               framed("i1e", ""),
		"an empty body for a number":  framed("", s),
		"no value":                    framed("i1e", "x"),
		"a number, and no state":      framed("i1e", "i1e"),
		"a number, and a change":      framed("i1e", change),
		"half a state":                framed("i1e", s[:9]),
		"bytes behind the state":      framed("i1e", s+"e"),
		"two states in one":           framed("i1e", s+s),
		"bytes behind the number":     framed("i1ex", s),
		"half a number":               framed("i1", s),
		"a zero ahead of the number":  framed("i01e", s),
		"a Text for the number":       framed("1:1", s),
		"a List for the number":       framed("li1ee", s),
		"an empty Text for it":        framed("0:", s),
		"an empty List for it":        framed("le", s),
		"a state that is not valid":   framed("i1e", writtenState(state(-1, 0, log(0, 0), ""))),
		"another that is not valid":   framed("i1e", writtenState(state(5, 10, log(0, 0), ""))),
		"voters that are not valid":   framed("i1e", writtenState(state(5, 1, log(0, 0), "", 2, 1))),
		"records that are not valid":  framed("i1e", writtenState(state(5, 1, log(0, 0, record(6, 0, "")), ""))),
		"too many bytes":              framed("i3e", writtenState(sized(t, 3, 131073))[:60000], writtenState(sized(t, 3, 131073))[60000:120000], writtenState(sized(t, 3, 131073))[120000:]),
		"a byte ahead of the image":   "x" + logOf(first()),
		"a frame ahead of the image":  framed("") + logOf(first()),
		"a byte between":              framed("i1e") + "x" + framed(s),
		"no value for a number, long": framed(letters(65536), s),
	} {
		rotten(t, name, bytes)
	}
}

// TestOpenNumbers: P14.3 for the number of bodies: 0, 10, one too great or too small, and such as no int need be.
func TestOpenNumbers(t *testing.T) {
	s, change := writtenState(first()), "li5ei2ei6elee"
	for _, n := range []int{-1 << 62, -1 << 32, -10, -1, 0, 2, 3, 9, 10, 11, 100, top, top + 1, 1 << 32, 1<<32 + 1, 1<<62 + 1} {
		rotten(t, "another number", framed(writtenNumbers(n), s))
		rotten(t, "another number, and a change", framed(writtenNumbers(n), s, change))
		rotten(t, "another number, and changes", framed(append([]string{writtenNumbers(n), s}, slices.Repeat([]string{change}, 10)...)...))
		rotten(t, "another number, and the state again", framed(append([]string{writtenNumbers(n)}, slices.Repeat([]string{s}, 11)...)...))
		rotten(t, "another number, and empty bodies", framed(append([]string{writtenNumbers(n), s}, make([]string, 10)...)...))
	}
	rotten(t, "a number alone", framed("i0e"))
	rotten(t, "a 0, and a change", framed("i0e", change))
	rotten(t, "a body too few", framed("i1e"))
	for _, n := range []int{60000, 60001, 119999, 120000, 120001, 131072} {
		long := imageOf(sized(t, 3, n))
		opened(t, "the right number", framed(long...), sized(t, 3, n))
		opened(t, "the right number, and a change", framed(append(long, "li4ei2ei5elee")...), sized(t, 4, n))
		for k := range 12 {
			if k != len(long)-1 {
				rotten(t, "a wrong number", framed(append([]string{writtenNumbers(k)}, long[1:]...)...))
				rotten(t, "a wrong number, and a change", framed(append([]string{writtenNumbers(k)}, append(long[1:], "li4ei2ei5elee")...)...))
			}
		}
		rotten(t, "a body too few", framed(long[:len(long)-1]...))
		rotten(t, "a body twice", framed(append(long, long[len(long)-1])...))
	}
}

// TestOpenSplits: P14.3 for images that are split elsewhere than behind every 60000 bytes, in another order, or with empty bodies.
func TestOpenSplits(t *testing.T) {
	split := func(s string, places ...int) string {
		bodies := []string{writtenNumbers(len(places) + 1)}
		from := 0
		for _, place := range append(places, len(s)) {
			bodies = append(bodies, s[from:place])
			from = place
		}
		return framed(bodies...)
	}
	for _, n := range []int{1000, 59999, 60000, 60001, 65000, 119999, 120000, 120001, 131072} {
		s := writtenState(sized(t, 3, n))
		right := map[int][]int{1: nil, 2: {60000}, 3: {60000, 120000}}[(n+59999)/60000]
		opened(t, "split as it is to be", split(s, right...), sized(t, 3, n))
		for _, places := range [][]int{nil, {0}, {1}, {500}, {n / 2}, {n - 1}, {n}, {59999}, {60001}, {65000}, {60000, n}, {0, 60000}, {1, 60001}, {60000, 60000}, {59999, 120000}, {60000, 119999}, {60000, 120001}, {60001, 120001}, {60000, 120000, n}, {60000, 90000, 120000}, {30000, 60000, 90000}, {50000, 100000}, {1, 2, 3, 4, 5, 6, 7, n - 60000}, {1, 2, 3, 4, 5, 6, 7, 8, n - 60000}} {
			if !splittable(n, places) || slices.Equal(places, right) {
				continue
			}
			rotten(t, "split elsewhere", split(s, places...))
		}
	}
	three := imageOf(sized(t, 3, 131072))
	rotten(t, "in another order", framed(three[0], three[2], three[1], three[3]))
	rotten(t, "in another order", framed(three[0], three[1], three[3], three[2]))
	rotten(t, "a body between", framed(three[0], three[1], "", three[2], three[3]))
	rotten(t, "a change between", framed(three[0], three[1], three[2], "li4ei2ei5elee", three[3]))
}

// splittable tells whether places rise within a string of so many bytes, and all bodies between them fit into frames.
func splittable(n int, places []int) bool {
	from := 0
	for _, place := range append(slices.Clone(places), n) {
		if place < from || place-from > 65536 {
			return false
		}
		from = place
	}
	return true
}

// TestOpenCutOff: P14.3 for files that end at each of their bytes: what comes ahead of the last whole frame is told, and is all that is left.
func TestOpenCutOff(t *testing.T) {
	more := record(5, 1, "xyz")
	bodies := []string{"li6ei0ei5elee", writtenChange(7, 1, 4, more), "li8ei8ei5elee"}
	whole := logOf(first(), bodies...)
	states := []api.Hard{first(), first(), first(), first()}
	states[1].Term, states[1].Vote, states[1].Log.Records = 6, 0, first().Log.Records[:2]
	states[2].Term, states[2].Vote, states[2].Log.Records = 7, 1, []api.Record{first().Log.Records[0], more}
	states[3] = states[2]
	states[3].Term, states[3].Vote = 8, 8
	ends := []int{len(logOf(first()))}
	for i := range bodies {
		ends = append(ends, len(logOf(first(), bodies[:i+1]...)))
	}
	for n := range len(whole) + 1 {
		at, exact := slices.BinarySearch(ends, n)
		bytes := whole[:n]
		switch {
		case exact:
			opened(t, "whole frames", bytes, states[at])
		case at == 0:
			rotten(t, "not even an image", bytes)
		default:
			cleaned(t, "cut off", bytes, states[at-1])
			cleaned(t, "another byte behind", whole[:ends[at-1]]+letters(n-ends[at-1]), states[at-1])
		}
		if n < len(whole) {
			changed := []byte(whole)
			changed[n] ^= 1
			if at, exact := slices.BinarySearch(ends, n); at > 0 || exact {
				if !exact {
					at--
				}
				cleaned(t, "a byte is changed", string(changed), states[at])
			} else {
				rotten(t, "a byte is changed", string(changed))
			}
		}
	}
}

// cleaned looks at a file log that tells a state and ends in bytes that are no frame: the state is rewritten.
func cleaned(t *testing.T, name, bytes string, want api.Hard) {
	t.Helper()
	half := len(bytes) / 2
	other := file("a", "", "b")
	for _, f := range []api.File{file("log", bytes, ""), file("log", "", bytes), file("log", bytes[:half], bytes[half:])} {
		checkOpen(t, name, roomy(f), roomy(held(want)), want, api.OK)
		checkOpen(t, name+", with a new file", roomy(other, f, file("log.new", "x", "y")), roomy(other, held(want)), want, api.OK)
	}
}

// TestOpenBytesBehind: P14.3 for bytes behind the frames, of any kind.
func TestOpenBytesBehind(t *testing.T) {
	for _, bytes := range []string{"x", "\x00", "\xff\xff", framed("")[:11], framed("")[1:], framed("le")[:10], strings.Repeat("\x00", 12), letters(1000), framed("li6ei2ei6elee")[1:], "\x00\x00\x00\x00xxxx", logOf(first())[1:]} {
		cleaned(t, "bytes behind an image", logOf(first())+bytes, first())
		cleaned(t, "bytes behind a change", logOf(first(), "li6ei2ei6elee")+bytes, but(func(h *api.Hard) { h.Term = 6 }))
		cleaned(t, "bytes ahead of a change", logOf(first())+bytes+framed("li6ei2ei6elee"), first())
		cleaned(t, "bytes behind an empty state", logOf(api.Hard{})+bytes, api.Hard{})
	}
	for _, n := range []int{60000, 60001, 120001, 131072} {
		cleaned(t, "bytes behind a long image", logOf(sized(t, 3, n))+"x", sized(t, 3, n))
		cleaned(t, "bytes behind a change of it", logOf(sized(t, 3, n), "li4ei2ei5elee")+"x", sized(t, 4, n))
	}
}

// TestOpenFull: P14.3 for a disk that has no room or no place for the rewriting: its error, and no state.
func TestOpenFull(t *testing.T) {
	image := len(logOf(first()))
	f := file("log", logOf(first(), "li6ei2ei6elee"), "x")
	six := but(func(h *api.Hard) { h.Term = 6 })
	size := len(f.Synced) + len(f.Tail)
	for more := range image + 5 {
		d := plate(size+more, 7, f)
		leftover := plate(size+more, 7, f, file("log.new", letters(more/2), letters(more-more/2)))
		if more < image {
			checkOpen(t, "no room", d, d, api.Hard{}, api.ErrFull)
			checkOpen(t, "no room without the old one", leftover, plate(size+more, 6, f), api.Hard{}, api.ErrFull)
		} else {
			checkOpen(t, "room", d, plate(size+more, 4, held(six)), six, api.OK)
			checkOpen(t, "room without the old one", leftover, plate(size+more, 3, held(six)), six, api.OK)
		}
	}
	seven := []api.File{file("a", "1", ""), file("b", "2", ""), file("c", "", "3"), file("d", "4", ""), file("e", "5", ""), file("m", "6", ""), file("n", "7", "")}
	d := roomy(slices.Insert(slices.Clone(seven), 5, f)...)
	checkOpen(t, "no place", d, d, api.Hard{}, api.ErrFull)
	d = roomy(slices.Insert(slices.Clone(seven[1:]), 4, f)...)
	checkOpen(t, "a place", d, roomy(slices.Insert(slices.Clone(seven[1:]), 4, held(six))...), six, api.OK)
	d = roomy(slices.Insert(slices.Clone(seven[1:]), 4, f, file("log.new", "x", ""))...)
	checkOpen(t, "the place of an old one", d, roomy(slices.Insert(slices.Clone(seven[1:]), 4, held(six))...), six, api.OK)
	clean := roomy(slices.Insert(slices.Clone(seven), 5, held(first()))...)
	checkOpen(t, "nothing to rewrite", clean, clean, first(), api.OK)
}

// TestOpenDown: P14.3 for the power failing at each call of the rewriting.
func TestOpenDown(t *testing.T) {
	d := func(left int, files ...api.File) api.Disk { return plate(roomiest, left, files...) }
	f, leftover := file("log", logOf(first(), "li6ei2ei6elee")+"xy", "z"), file("log.new", "x", "yz")
	six := but(func(h *api.Hard) { h.Term = 6 })
	fresh, synced := file("log.new", "", logOf(six)), file("log.new", logOf(six), "")
	checkOpen(t, "at Write", d(0, f), down(d(0, f, fresh)), api.Hard{}, api.ErrDown)
	checkOpen(t, "at Sync", d(1, f), down(d(0, f, fresh)), api.Hard{}, api.ErrDown)
	checkOpen(t, "at Rename", d(2, f), down(d(0, f, synced)), api.Hard{}, api.ErrDown)
	checkOpen(t, "with enough", d(3, f), d(0, held(six)), six, api.OK)
	checkOpen(t, "with more", d(9, f), d(6, held(six)), six, api.OK)
	checkOpen(t, "at Remove", d(0, f, leftover), down(d(0, f, leftover)), api.Hard{}, api.ErrDown)
	checkOpen(t, "at Write behind Remove", d(1, f, leftover), down(d(0, f, fresh)), api.Hard{}, api.ErrDown)
	checkOpen(t, "at Sync behind Remove", d(2, f, leftover), down(d(0, f, fresh)), api.Hard{}, api.ErrDown)
	checkOpen(t, "at Rename behind Remove", d(3, f, leftover), down(d(0, f, synced)), api.Hard{}, api.ErrDown)
	checkOpen(t, "with enough for Remove", d(4, f, leftover), d(0, held(six)), six, api.OK)
	bad := file("log", framed("i1e"), "x")
	checkOpen(t, "nothing to rewrite", d(0, bad), d(0, bad), api.Hard{}, api.ErrRot)
}
