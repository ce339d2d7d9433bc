package wal_test

import (
	"slices"
	"testing"

	"hornbook/api"
	"hornbook/disk"
	"hornbook/frame"
	"hornbook/wal"
)

// held is a file log that holds a state, as an image and bodies behind it.
func held(h api.Hard, bodies ...string) api.File { return file("log", logOf(h, bodies...), "") }

// roomy is a disk with much room, and files.
func roomy(files ...api.File) api.Disk { return plate(roomiest, -1, files...) }

// first is a state with a bit of everything: term 5, a vote, records with the indices 4 to 6, a snapshot and voters.
func first() api.Hard {
	return state(5, 2, log(3, 1, record(1, 0, ""), record(2, 1, "ab"), record(4, 2, "c")), "snap", 1, 2, 3)
}

// but is the first state after a function has changed it.
func but(change func(h *api.Hard)) api.Hard {
	h := first()
	change(&h)
	return h
}

// records is the first state with other records.
func records(l ...api.Record) api.Hard {
	return but(func(h *api.Hard) { h.Log.Records = l })
}

// TestExamples: the chapter's table, byte by byte.
func TestExamples(t *testing.T) {
	one, three := state(1, 2, log(0, 0), ""), state(3, 0, log(0, 0), "")
	bytes := framed("i1e", "li1ei2ei0ei0e0:lelee")
	d := plate(1000, -1, file("log", bytes, ""))
	checkSave(t, "on an empty disk", plate(1000, -1), api.Hard{}, one, d, api.OK)
	checkOpen(t, "one", d, d, one, api.OK)
	both := plate(1000, -1, file("log", bytes+framed("li3ei0ei0elee"), ""))
	checkSave(t, "then Term 3", d, one, three, both, api.OK)
	checkOpen(t, "both", both, both, three, api.OK)
	last := both.Files[0].Synced
	for n := len(bytes) + 1; n < len(last); n++ {
		checkOpen(t, "truncated", plate(1000, -1, file("log", last[:n], "")), d, one, api.OK)
	}
}

// TestFirstSave: P14.2 without a file log: the state is rewritten, be it equal or not.
func TestFirstSave(t *testing.T) {
	for _, old := range []api.Hard{{}, first(), state(top, 9, log(0, 0), "")} {
		for _, now := range []api.Hard{{}, first(), state(5, 3, log(0, 0), "")} {
			checkSave(t, "no file", roomy(), old, now, roomy(held(now)), api.OK)
			a, z := file("a", "1", "2"), file("z", "", "3")
			checkSave(t, "other files", roomy(a, z), old, now, roomy(a, held(now), z), api.OK)
			near := []api.File{file("lo", "x", ""), file("log.", "x", ""), file("log.ne", "x", ""), file("log.new1", "x", ""), file("logs", "x", "")}
			checkSave(t, "files with such names", roomy(near...), old, now, roomy(slices.Insert(slices.Clone(near), 1, held(now))...), api.OK)
			checkSave(t, "the new file alone", roomy(file("log.new", "x", "y")), old, now, roomy(held(now)), api.OK)
		}
	}
}

// TestImages: P14.2 for images of one body, of two and of three, split behind every 60000 bytes.
func TestImages(t *testing.T) {
	for _, x := range []struct {
		n, k int
	}{{1000, 1}, {59999, 1}, {60000, 1}, {60001, 2}, {60002, 2}, {119999, 2}, {120000, 2}, {120001, 3}, {131071, 3}, {131072, 3}} {
		h := sized(t, 3, x.n)
		s := writtenState(h)
		bytes := framed(writtenNumbers(x.k))
		for from := range x.k {
			bytes += framed(s[60000*from : min(60000*from+60000, len(s))])
		}
		d := roomy(file("log", bytes, ""))
		checkSave(t, "an image", roomy(), api.Hard{}, h, d, api.OK)
		checkOpen(t, "an image", d, d, h, api.OK)
		checkSave(t, "an image in place of another", roomy(held(first())), first(), h, d, api.OK)
	}
}

// TestEqualStates: P14.2 for equal states: nothing is done where there is a file log, whatever is in it.
func TestEqualStates(t *testing.T) {
	for _, h := range []api.Hard{{}, first(), sized(t, 3, 70000)} {
		for _, f := range []api.File{held(h), held(h, "x"), file("log", "", ""), file("log", "x", "y"), file("log", "", "xyz")} {
			for _, left := range []int{-1, 0, 1, 5} {
				d := plate(roomiest, left, f, file("log.new", "a", "b"))
				checkSave(t, "equal", d, h, h, d, api.OK)
				d = plate(len(f.Synced)+len(f.Tail), left, f)
				checkSave(t, "equal, without room", d, h, h, d, api.OK)
			}
		}
		checkSave(t, "equal, without the file", roomy(), h, h, roomy(held(h)), api.OK)
		checkSave(t, "equal, with the new file alone", roomy(held(h), file("m", "", "")), h, h, roomy(held(h), file("m", "", "")), api.OK)
	}
	empty := api.Hard{Log: api.Log{Records: []api.Record{}}, Voters: []int{}}
	d := roomy(held(empty))
	checkSave(t, "none or nil", d, api.Hard{}, empty, d, api.OK)
	checkSave(t, "nil or none", d, empty, api.Hard{}, d, api.OK)
}

// appended looks at a state that is saved behind another one as a change with this body.
func appended(t *testing.T, name string, old, now api.Hard, body string) {
	t.Helper()
	d, want := roomy(held(old)), roomy(held(old, body))
	checkSave(t, name, d, old, now, want, api.OK)
	checkOpen(t, name, want, want, now, api.OK)
	other, tail := file("log.new", "x", "y"), file("log", logOf(old)[:20], logOf(old)[20:])
	checkSave(t, name+", with another file", roomy(held(old), other), old, now, roomy(held(old, body), other), api.OK)
	checkSave(t, name+", behind a Tail", roomy(tail), old, now, want, api.OK)
	checkSave(t, name+", behind a change", roomy(held(first(), "le")), old, now, roomy(held(first(), "le", body)), api.OK)
	checkSave(t, name+", behind anything", roomy(file("log", "", "x")), old, now, roomy(file("log", "x"+framed(body), "")), api.OK)
}

// TestTermAndVoteAlone: P14.2 for states that differ in Term or Vote alone.
func TestTermAndVoteAlone(t *testing.T) {
	appended(t, "Term", first(), but(func(h *api.Hard) { h.Term = 6 }), "li6ei2ei6elee")
	appended(t, "Term", first(), but(func(h *api.Hard) { h.Term = top }), "li1073741824ei2ei6elee")
	appended(t, "a lesser Term", first(), but(func(h *api.Hard) { h.Term = 4 }), "li4ei2ei6elee")
	appended(t, "Vote", first(), but(func(h *api.Hard) { h.Vote = 9 }), "li5ei9ei6elee")
	appended(t, "Vote", first(), but(func(h *api.Hard) { h.Vote = 0 }), "li5ei0ei6elee")
	appended(t, "both", first(), but(func(h *api.Hard) { h.Term, h.Vote = 7, 1 }), "li7ei1ei6elee")
	appended(t, "without records", state(1, 0, log(0, 0), ""), state(1, 1, log(0, 0), ""), "li1ei1ei0elee")
	appended(t, "behind a Base", state(1, 0, log(top, 1), ""), state(2, 0, log(top, 1), ""), "li2ei0ei1073741824elee")
	appended(t, "none or nil", api.Hard{Voters: []int{}}, api.Hard{Term: 1, Log: api.Log{Records: []api.Record{}}}, "li1ei0ei0elee")
}

// TestRecordsAlone: P14.2 for states that differ in records: Keep is the last index up to which they are the same.
func TestRecordsAlone(t *testing.T) {
	a, b, c := first().Log.Records[0], first().Log.Records[1], first().Log.Records[2]
	more := record(5, 1, "xyz")
	appended(t, "one more", first(), records(a, b, c, more), "li5ei2ei6elli5ei1e3:xyzeee")
	appended(t, "two more", first(), records(a, b, c, more, more), "li5ei2ei6elli5ei1e3:xyzeli5ei1e3:xyzeee")
	appended(t, "one less", first(), records(a, b), "li5ei2ei5elee")
	appended(t, "two less", first(), records(a), "li5ei2ei4elee")
	appended(t, "none", first(), records(), "li5ei2ei3elee")
	appended(t, "all new", records(), first(), "li5ei2ei3elli1ei0e0:eli2ei1e2:abeli4ei2e1:ceee")
	appended(t, "the last Data", first(), records(a, b, record(4, 2, "d")), "li5ei2ei5elli4ei2e1:deee")
	appended(t, "longer Data", first(), records(a, b, record(4, 2, "cc")), "li5ei2ei5elli4ei2e2:cceee")
	appended(t, "the last Kind", first(), records(a, b, record(4, 1, "c")), "li5ei2ei5elli4ei1e1:ceee")
	appended(t, "the last Term", first(), records(a, b, record(5, 2, "c")), "li5ei2ei5elli5ei2e1:ceee")
	appended(t, "one in the middle", first(), records(a, record(3, 1, "ab"), c), "li5ei2ei4elli3ei1e2:abeli4ei2e1:ceee")
	appended(t, "the first", first(), records(record(1, 1, ""), b, c), "li5ei2ei3elli1ei1e0:eli2ei1e2:abeli4ei2e1:ceee")
	appended(t, "the first is gone", first(), records(b, c), "li5ei2ei3elli2ei1e2:abeli4ei2e1:ceee")
	appended(t, "one in the middle is gone", first(), records(a, c), "li5ei2ei4elli4ei2e1:ceee")
	appended(t, "one ahead", first(), records(a, a, b, c), "li5ei2ei4elli1ei0e0:eli2ei1e2:abeli4ei2e1:ceee")
	appended(t, "Term and records", first(), state(9, 0, log(3, 1, a, record(9, 0, "")), "snap", 1, 2, 3), "li9ei0ei4elli9ei0e0:eee")
	appended(t, "the same twice", state(1, 0, log(0, 0, some(2, 1)...), ""), state(1, 0, log(0, 0, slices.Repeat(some(2, 1), 2)...), ""), "li1ei0ei2elli1ei0e2:r0eli1ei1e2:r1eee")
	appended(t, "behind no Base", state(1, 0, log(0, 0, some(1, 1)...), ""), state(1, 0, log(0, 0), ""), "li1ei0ei0elee")
	appended(t, "at the last index", state(1, 0, log(top-1, 1), ""), state(1, 0, log(top-1, 1, record(1, 1, "")), ""), "li1ei0ei1073741823elli1ei1e0:eee")
	for kept := range 201 {
		l := append(some(kept, 1), some(200-kept, 2)...)
		appended(t, "many", state(2, 0, log(0, 0, some(200, 1)...), ""), state(3, 0, log(0, 0, l...), ""), "li3ei0e"+writtenNumbers(kept)+writtenRecords(l[kept:])+"e")
	}
}

// TestRewritten: P14.2 for states that differ in what no change tells: the image of the new one alone is there.
func TestRewritten(t *testing.T) {
	for name, now := range map[string]api.Hard{
		"Base":            but(func(h *api.Hard) { h.Log.Base = 2 }),
		"a greater Base":  but(func(h *api.Hard) { h.Log.Base = 4 }),
		"BaseTerm":        state(5, 2, log(3, 2, record(2, 0, "")), "snap", 1, 2, 3),
		"Snap":            but(func(h *api.Hard) { h.Snap = "snaq" }),
		"a longer Snap":   but(func(h *api.Hard) { h.Snap += "x" }),
		"no Snap":         but(func(h *api.Hard) { h.Snap = "" }),
		"Voters":          but(func(h *api.Hard) { h.Voters[2] = 4 }),
		"a voter more":    but(func(h *api.Hard) { h.Voters = append(h.Voters, 9) }),
		"a voter less":    but(func(h *api.Hard) { h.Voters = h.Voters[:2] }),
		"no voters":       but(func(h *api.Hard) { h.Voters = nil }),
		"Snap and Term":   but(func(h *api.Hard) { h.Snap, h.Term = "x", 9 }),
		"Base and so on":  state(5, 2, log(6, 4), "more", 1, 2, 3),
		"everything":      state(9, 1, log(0, 0, some(7, 8)...), "", 7),
		"the first again": {},
	} {
		for _, f := range []api.File{held(first()), held(first(), "x"), file("log", logOf(first())[:9], logOf(first())[9:]), file("log", "", "")} {
			checkSave(t, name, roomy(f), first(), now, roomy(held(now)), api.OK)
			checkSave(t, name+", with a new file", roomy(f, file("log.new", "x", "y")), first(), now, roomy(held(now)), api.OK)
			others := []api.File{file("a", "", "b"), f, file("log.old", "c", "")}
			checkSave(t, name+", with other files", roomy(others...), first(), now, roomy(others[0], held(now), others[2]), api.OK)
		}
	}
	d := roomy(held(records(record(2, 0, ""))))
	now := state(5, 2, log(3, 2, record(2, 0, "")), "snap", 1, 2, 3)
	checkSave(t, "BaseTerm alone", d, records(record(2, 0, "")), now, roomy(held(now)), api.OK)
}

// TestLongChanges: P14.2 for changes whose bodies have up to 65536 bytes, and for longer ones, which are rewritten.
func TestLongChanges(t *testing.T) {
	for _, voters := range [][]int{nil, {1, 2}} {
		old := state(1, 0, log(0, 0), "", voters...)
		full := slices.Repeat([]api.Record{record(1, 1, letters(7800))}, 8)
		for _, n := range []int{65000, 65535, 65536, 65537, 65538, 66000} {
			now := state(1, 0, log(0, 0, append(full[:8:8], record(1, 1, letters(3000)))...), "", voters...)
			more := n - len(writtenChange(1, 0, 0, now.Log.Records...))
			now.Log.Records[8].Data = letters(3000 + more)
			body := writtenChange(1, 0, 0, now.Log.Records...)
			if len(body) != n {
				t.Fatalf("%d bytes are not to be had", n)
			}
			if n > 65536 {
				checkSave(t, "too long a change", roomy(held(old)), old, now, roomy(held(now)), api.OK)
			} else {
				appended(t, "a long change", old, now, body)
			}
		}
		whole := state(1, 0, log(0, 0, slices.Repeat(full, 2)[:15]...), "", voters...)
		checkSave(t, "far too long a change", roomy(held(old)), old, whole, roomy(held(whole)), api.OK)
		appended(t, "a long state and a short change", whole, old, "li1ei0ei0elee")
	}
}

// TestSaveRefused: P14.2 for disks and states that may not be, and for a disk that is Down: the disk is the one that was passed.
func TestSaveRefused(t *testing.T) {
	wrong := []api.Hard{{Term: -1}, {Vote: 10}, {Term: 1, Log: log(0, 1)}, {Log: log(1, 0)}, {Voters: []int{0}}, sized(t, 3, 131073), state(1, 0, log(0, 0, record(2, 0, "")), "")}
	good := []api.Disk{roomy(), roomy(held(first())), plate(0, 0), down(roomy(held(first()))), down(plate(0, -1)), plate(0, 0, file("log", "", "")), plate(9, 7, file("a", "", "b"))}
	bad := []api.Disk{{Left: -2}, {Room: -1}, {Room: roomiest + 1}, {Left: top + 1}, plate(3, -1, file("log", "ab", "cd")), roomy(file("log", "", ""), file("a", "", "")), roomy(file("", "", "")), roomy(file("LOG", "", "")), down(api.Disk{Left: -2}), roomy(slices.Repeat([]api.File{file("log", "", "")}, 9)...), down(roomy(file("log", "", ""), file("log", "", "")))}
	for _, h := range wrong {
		for _, d := range append(good, bad...) {
			checkSave(t, "a wrong old state", d, h, first(), d, api.ErrArg)
			checkSave(t, "a wrong new state", d, first(), h, d, api.ErrArg)
			checkSave(t, "wrong states", d, h, h, d, api.ErrArg)
		}
	}
	for _, d := range bad {
		checkSave(t, "a wrong disk", d, api.Hard{}, first(), d, api.ErrArg)
		checkSave(t, "a wrong disk", d, first(), first(), d, api.ErrArg)
		checkOpen(t, "a wrong disk", d, d, api.Hard{}, api.ErrArg)
	}
	for _, d := range good {
		d.Down = true
		checkSave(t, "a disk that is Down", d, api.Hard{}, first(), d, api.ErrDown)
		checkSave(t, "a disk that is Down", d, first(), first(), d, api.ErrDown)
		checkSave(t, "a disk that is Down", d, first(), but(func(h *api.Hard) { h.Term++ }), d, api.ErrDown)
		checkOpen(t, "a disk that is Down", d, d, api.Hard{}, api.ErrDown)
	}
}

// TestSaveFull: P14.2 for a disk that has no room for the change or for the image: what is there stays, but for an old file log.new.
func TestSaveFull(t *testing.T) {
	higher, other := but(func(h *api.Hard) { h.Term = 6 }), but(func(h *api.Hard) { h.Snap = "other" })
	old, change, image := len(logOf(first())), len(framed("li6ei2ei6elee")), len(logOf(other))
	f := held(first())
	for more := range change + 10 {
		d := plate(old+more, -1, f)
		if more < change {
			checkSave(t, "no room for a change", d, first(), higher, d, api.ErrFull)
		} else {
			checkSave(t, "room for a change", d, first(), higher, plate(old+more, -1, held(first(), "li6ei2ei6elee")), api.OK)
		}
	}
	for more := range image + 10 {
		d := plate(old+more, -1, f)
		leftover := plate(old+more, -1, f, file("log.new", letters(more/2), letters(more-more/2)))
		alone := plate(more, -1, file("log.new", letters(more/2), letters(more-more/2)))
		if more < image {
			checkSave(t, "no room for an image", d, first(), other, d, api.ErrFull)
			checkSave(t, "no room for an image without the old one", leftover, first(), other, d, api.ErrFull)
			checkSave(t, "no room for the first image", plate(more, -1), api.Hard{}, other, plate(more, -1), api.ErrFull)
			checkSave(t, "no room for the first image without the old one", alone, api.Hard{}, other, plate(more, -1), api.ErrFull)
		} else {
			checkSave(t, "room for an image", d, first(), other, plate(old+more, -1, held(other)), api.OK)
			checkSave(t, "room for an image without the old one", leftover, first(), other, plate(old+more, -1, held(other)), api.OK)
			checkSave(t, "room for the first image", plate(more, -1), api.Hard{}, other, plate(more, -1, held(other)), api.OK)
			checkSave(t, "room for the first image without the old one", alone, api.Hard{}, other, plate(more, -1, held(other)), api.OK)
		}
	}
	blocked := roomy(held(first()), file("m", letters(roomiest-old), ""))
	checkSave(t, "another file in the way", blocked, first(), higher, blocked, api.ErrFull)
	checkSave(t, "another file in the way", blocked, first(), other, blocked, api.ErrFull)
	checkSave(t, "no room at all", plate(0, -1), api.Hard{}, api.Hard{}, plate(0, -1), api.ErrFull)
}

// TestSaveFullCounts: P14.2: a call that is refused does not count, and Left is what the calls ahead of it have left.
func TestSaveFullCounts(t *testing.T) {
	other := but(func(h *api.Hard) { h.Snap = "other" })
	f := held(first())
	d := func(left int, files ...api.File) api.Disk { return plate(len(logOf(first()))+4, left, files...) }
	checkSave(t, "no call", d(0, f), first(), other, d(0, f), api.ErrFull)
	checkSave(t, "no call", d(5, f), first(), other, d(5, f), api.ErrFull)
	checkSave(t, "one call", d(5, f, file("log.new", "ab", "cd")), first(), other, d(4, f), api.ErrFull)
	checkSave(t, "one call", d(1, f, file("log.new", "", "")), first(), other, d(0, f), api.ErrFull)
	checkSave(t, "one call fails", d(0, f, file("log.new", "ab", "cd")), first(), other, down(d(0, f, file("log.new", "ab", "cd"))), api.ErrDown)
}

// TestSaveManyFiles: P14.2 on a disk with 8 files: a change goes into its file, an image needs a place.
func TestSaveManyFiles(t *testing.T) {
	higher, other := but(func(h *api.Hard) { h.Term = 6 }), but(func(h *api.Hard) { h.Snap = "other" })
	seven := []api.File{file("a", "1", ""), file("b", "2", ""), file("c", "", "3"), file("d", "4", ""), file("e", "5", ""), file("m", "6", ""), file("n", "7", "")}
	at := func(f ...api.File) api.Disk { return roomy(slices.Insert(slices.Clone(seven), 5, f...)...) }
	checkSave(t, "a change", at(held(first())), first(), higher, at(held(first(), "li6ei2ei6elee")), api.OK)
	checkSave(t, "an image", at(held(first())), first(), other, at(held(first())), api.ErrFull)
	checkSave(t, "equal", at(held(first())), first(), first(), at(held(first())), api.OK)
	checkSave(t, "the first image", roomy(seven...), first(), other, at(held(other)), api.OK)
	checkSave(t, "an image in the place of an old one", at(file("log.new", "x", "y")), first(), other, at(held(other)), api.OK)
	eight := roomy(append(seven[:7:7], file("z", "8", ""))...)
	checkSave(t, "no place for the first image", eight, first(), other, eight, api.ErrFull)
	checkSave(t, "no place for the first image", eight, other, other, eight, api.ErrFull)
	six := func(f ...api.File) api.Disk { return roomy(slices.Insert(slices.Clone(seven[1:]), 4, f...)...) }
	checkSave(t, "both files", six(held(first()), file("log.new", "x", "")), first(), other, six(held(other)), api.OK)
	checkSave(t, "a place", six(held(first())), first(), other, six(held(other)), api.OK)
}

// TestSaveDown: P14.2 for the power failing at each call: the disk is the one that the call answers.
func TestSaveDown(t *testing.T) {
	higher, other := but(func(h *api.Hard) { h.Term = 6 }), but(func(h *api.Hard) { h.Snap = "other" })
	change, image := framed("li6ei2ei6elee"), logOf(other)
	d := func(left int, files ...api.File) api.Disk { return plate(roomiest, left, files...) }
	f, leftover := held(first()), file("log.new", "x", "yz")
	written := file("log", f.Synced, change)
	checkSave(t, "a change, at Write", d(0, f), first(), higher, down(d(0, written)), api.ErrDown)
	checkSave(t, "a change, at Sync", d(1, f), first(), higher, down(d(0, written)), api.ErrDown)
	checkSave(t, "a change, with one too many", d(2, f), first(), higher, d(0, held(first(), "li6ei2ei6elee")), api.OK)
	checkSave(t, "a change, with more", d(9, f), first(), higher, d(7, held(first(), "li6ei2ei6elee")), api.OK)
	fresh, synced := file("log.new", "", image), file("log.new", image, "")
	checkSave(t, "an image, at Write", d(0, f), first(), other, down(d(0, f, fresh)), api.ErrDown)
	checkSave(t, "an image, at Sync", d(1, f), first(), other, down(d(0, f, fresh)), api.ErrDown)
	checkSave(t, "an image, at Rename", d(2, f), first(), other, down(d(0, f, synced)), api.ErrDown)
	checkSave(t, "an image, with enough", d(3, f), first(), other, d(0, held(other)), api.OK)
	checkSave(t, "an image, with more", d(top, f), first(), other, d(top-3, held(other)), api.OK)
	checkSave(t, "an image, at Remove", d(0, f, leftover), first(), other, down(d(0, f, leftover)), api.ErrDown)
	checkSave(t, "an image, at Write behind Remove", d(1, f, leftover), first(), other, down(d(0, f, fresh)), api.ErrDown)
	checkSave(t, "an image, at Sync behind Remove", d(2, f, leftover), first(), other, down(d(0, f, fresh)), api.ErrDown)
	checkSave(t, "an image, at Rename behind Remove", d(3, f, leftover), first(), other, down(d(0, f, synced)), api.ErrDown)
	checkSave(t, "an image, with enough for Remove", d(4, f, leftover), first(), other, d(0, held(other)), api.OK)
	checkSave(t, "the first image, at Write", d(0), api.Hard{}, other, down(d(0, fresh)), api.ErrDown)
	checkSave(t, "the first image, at Sync", d(1), api.Hard{}, other, down(d(0, fresh)), api.ErrDown)
	checkSave(t, "the first image, at Rename", d(2), api.Hard{}, other, down(d(0, synced)), api.ErrDown)
	checkSave(t, "the first image, with enough", d(3), api.Hard{}, other, d(0, held(other)), api.OK)
	checkSave(t, "equal", d(0, f), first(), first(), d(0, f), api.OK)
}

// TestOneWrite: P14.2: an image is written in one call, of however many frames it is, and so is a change.
func TestOneWrite(t *testing.T) {
	h := sized(t, 3, 131072)
	d, e := wal.Save(plate(roomiest, 0), api.Hard{}, h)
	if bodies, end := frame.Scan(d.Files[0].Tail); e != api.ErrDown || len(bodies) != 4 || end != 131072+4*12+3 {
		t.Errorf("%d bodies, %d bytes, %d", len(bodies), end, e)
	}
	d, _ = disk.Crash(d, []int{70000})
	checkOpen(t, "half an image", d, d, api.Hard{}, api.OK)
	checkSave(t, "in place of half an image", d, api.Hard{}, h, roomy(held(h)), api.OK)
}
