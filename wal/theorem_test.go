package wal_test

import (
	"math/rand"
	"slices"
	"strconv"
	"testing"

	"hornbook/api"
	"hornbook/disk"
	"hornbook/wal"
)

// kinds is states that differ from one another in each way in which states can.
func kinds() []api.Hard {
	a, b := first().Log.Records[0], first().Log.Records[1]
	return []api.Hard{
		{},
		{Voters: []int{1, 2, 3}},
		state(1, 0, log(0, 0), "", 1, 2, 3),
		first(),
		but(func(h *api.Hard) { h.Term, h.Vote = 6, 0 }),
		records(a, b, record(5, 1, "other"), record(5, 1, "")),
		records(a),
		state(6, 0, log(5, 2, record(4, 2, "c")), "later", 1, 2, 3),
		but(func(h *api.Hard) { h.Voters = []int{1, 2, 3, 4} }),
	}
}

// saved answers the disk that Save does, and fails if that does not succeed.
func saved(t testing.TB, d api.Disk, old, now api.Hard) api.Disk {
	t.Helper()
	next, e := wal.Save(d, old, now)
	if e != api.OK {
		t.Fatalf("Save of %s behind %s on %s answers %d", brief(now), brief(old), brief(d), e)
	}
	return next
}

// openedAs answers which of some states Open tells, and the disk behind it; whatever else it tells is a failure.
func openedAs(t testing.TB, d api.Disk, states ...api.Hard) (api.Disk, api.Hard) {
	t.Helper()
	next, h, e := wal.Open(d)
	if e != api.OK || !slices.ContainsFunc(states, func(x api.Hard) bool { return sameState(x, h) }) {
		t.Fatalf("Open of %s answers %s, %d, and none of %s", brief(d), brief(h), e, brief(states))
	}
	return next, h
}

// cut is a disk in which so many calls take effect until the power fails.
func cut(t testing.TB, d api.Disk, left int) api.Disk {
	t.Helper()
	next, e := disk.Cut(d, left)
	if e != api.OK {
		t.Fatalf("Cut of %s to %d answers %d", brief(d), left, e)
	}
	return next
}

func crashed(t testing.TB, d api.Disk, keep ...int) api.Disk {
	t.Helper()
	next, e := disk.Crash(d, keep)
	if e != api.OK {
		t.Fatalf("Crash of %s answers %d", brief(d), e)
	}
	return next
}

// crashes is what a disk may be behind a crash: with each prefix of the longest Tail, and none, half or all of the others.
func crashes(t testing.TB, d api.Disk) []api.Disk {
	t.Helper()
	longest := 0
	for _, f := range d.Files {
		longest = max(longest, len(f.Tail))
	}
	var l []api.Disk
	for n := 0; n <= longest; n += 1 + longest/2000 {
		keep := make([]int, len(d.Files))
		for i, f := range d.Files {
			keep[i] = []int{0, len(f.Tail) / 2, len(f.Tail)}[n%3]
			if len(f.Tail) == longest {
				keep[i] = n
			}
		}
		l = append(l, crashed(t, d, keep...))
	}
	return append(l, crashed(t, d), crashed(t, d, slices.Repeat([]int{longest}, 8)...))
}

// holding is disks that hold a state, each in its own way.
func holding(t testing.TB, h api.Hard) []api.Disk {
	t.Helper()
	fresh := saved(t, roomy(), api.Hard{}, h)
	leftover := saved(t, roomy(file("a", "1", "2"), file("log.new", "3", "4")), api.Hard{}, h)
	leftover.Files = append(slices.Clone(leftover.Files), file("log.new", "56", "78"))
	// The third one gets there by changes.
	other, later := h, h
	other.Vote, other.Log.Records = (h.Vote+1)%10, nil
	later.Term++
	long := saved(t, roomy(), api.Hard{}, other)
	long = saved(t, long, other, later)
	long = saved(t, long, later, h)
	return []api.Disk{fresh, leftover, long}
}

// TestSavedIsOpened: P14.4: what was saved is read, on whatever disk that holds a state, and can be saved and opened again.
func TestSavedIsOpened(t *testing.T) {
	long := []api.Hard{sized(t, 3, 60000), sized(t, 4, 131072), state(2, 0, log(0, 0, some(200, 2)...), "")}
	for _, old := range append(kinds(), long...) {
		disks := holding(t, old)
		if sameState(old, api.Hard{}) {
			disks = append(disks, roomy())
		}
		for _, d := range disks {
			openedAs(t, d, old)
			for _, now := range append(kinds(), long...) {
				next, h := openedAs(t, saved(t, d, old, now), now)
				next, h = openedAs(t, saved(t, next, h, old), old)
				openedAs(t, saved(t, next, h, now), now)
				openedAs(t, crashed(t, saved(t, d, old, now)), now)
			}
		}
	}
}

// interrupted saves a state while the power fails, at each call in turn, and looks at what is there behind each crash.
func interrupted(t *testing.T, d api.Disk, old, now api.Hard) {
	t.Helper()
	for left := 0; ; left++ {
		next, e := wal.Save(cut(t, d, left), old, now)
		if e == api.OK {
			for _, c := range crashes(t, next) {
				openedAs(t, c, now)
			}
			return
		}
		if e != api.ErrDown || !next.Down || left > 3 {
			t.Fatalf("Save of %s behind %s with a Left of %d answers %s, %d", brief(now), brief(old), left, brief(next), e)
		}
		for i, c := range crashes(t, next) {
			again, h := openedAs(t, c, old, now)
			if i%10 > 0 {
				continue
			}
			openedAs(t, again, h)
			for _, x := range []api.Hard{old, now, sized(t, 9, 1000)} {
				openedAs(t, saved(t, again, h, x), x)
			}
		}
	}
}

// TestInterruptedSaves: P14.4 for the power failing at any call of Save: there is the old state or the new one.
func TestInterruptedSaves(t *testing.T) {
	for i, old := range kinds() {
		disks := holding(t, old)
		if testing.Short() {
			disks = disks[1:2]
		}
		if i == 0 {
			disks = append(disks, roomy(), roomy(file("log.new", "x", "yz")))
		}
		for _, d := range disks {
			for _, now := range kinds() {
				interrupted(t, d, old, now)
			}
		}
	}
}

// TestInterruptedLongSaves: P14.4 for images of several bodies, and long changes.
func TestInterruptedLongSaves(t *testing.T) {
	if testing.Short() {
		t.Skip("takes seconds")
	}
	long := state(1, 0, log(0, 0, record(1, 1, letters(8192)), record(1, 1, letters(8192))), "")
	interrupted(t, saved(t, roomy(), api.Hard{}, api.Hard{}), api.Hard{}, long)
	d := saved(t, roomy(), api.Hard{}, sized(t, 3, 60001))
	tails := func(n int) {
		next, e := wal.Save(cut(t, d, 0), sized(t, 3, 60001), sized(t, 4, 131072))
		if e != api.ErrDown {
			t.Fatalf("Save answers %d", e)
		}
		openedAs(t, crashed(t, next, 0, n), sized(t, 3, 60001))
	}
	for _, n := range []int{0, 1, 14, 15, 16, 60026, 60027, 60028, 120039, 120040, 131122, 131123, 131124} {
		tails(n)
	}
}

// TestInterruptedOpens: P14.4 for the power failing while Open rewrites: the state is there at the next time.
func TestInterruptedOpens(t *testing.T) {
	for _, h := range kinds() {
		for _, d := range holding(t, h) {
			at := slices.IndexFunc(d.Files, func(f api.File) bool { return f.Name == "log" })
			d.Files = slices.Clone(d.Files)
			d.Files[at].Synced += framed("li0ei0ei0elee")[:20]
			for left := 0; ; left++ {
				next, got, e := wal.Open(cut(t, d, left))
				if e == api.OK {
					openedAs(t, crashed(t, next), h)
					break
				}
				if e != api.ErrDown || !next.Down || !sameState(got, api.Hard{}) || left > 3 {
					t.Fatalf("Open of %s with a Left of %d answers %s, %s, %d", brief(d), left, brief(next), brief(got), e)
				}
				for _, c := range crashes(t, next) {
					again, _ := openedAs(t, c, h)
					openedAs(t, saved(t, again, h, first()), first())
				}
			}
		}
	}
}

// TestRefusedSaves: P14.4 for disks that have too little room: the old state is there, and the new one where there is enough.
func TestRefusedSaves(t *testing.T) {
	for _, old := range kinds() {
		for _, d := range holding(t, old) {
			size := 0
			for _, f := range d.Files {
				size += len(f.Synced) + len(f.Tail)
			}
			for _, now := range kinds() {
				for more := range 200 {
					d.Room = size + more
					next, e := wal.Save(d, old, now)
					switch {
					case e == api.OK:
						openedAs(t, crashed(t, next), now)
					case e == api.ErrFull && more < 190:
						openedAs(t, next, old)
						openedAs(t, crashed(t, next), old)
					default:
						t.Fatalf("Save of %s behind %s on %s answers %d", brief(now), brief(old), brief(d), e)
					}
				}
			}
		}
	}
}

// drift answers a valid state that may follow another one, in small steps or large ones.
func drift(random *rand.Rand, h api.Hard) api.Hard {
	records := slices.Clone(h.Log.Records)
	h.Log.Records = records
	switch random.Intn(9) {
	case 0, 1:
		h.Term, h.Vote = h.Term+1, random.Intn(10)
	case 2, 3, 4:
		h.Term = max(h.Term, 1)
		for range 1 + random.Intn(4) {
			h.Log.Records = append(h.Log.Records, record(h.Term, random.Intn(3), letters(random.Intn(30))))
		}
	case 5:
		h.Log.Records = records[:random.Intn(len(records)+1)]
	case 6:
		if n := random.Intn(len(records) + 1); n > 0 {
			h.Log = log(h.Log.Base+n, records[n-1].Term, records[n:]...)
			h.Snap = "snap" + strconv.Itoa(h.Log.Base)
		}
	case 7:
		h.Voters = [][]int{nil, {1}, {1, 2, 3}, {2, 5, 9}}[random.Intn(4)]
	}
	h.Log.Records = h.Log.Records[:min(len(h.Log.Records), 20)]
	return h
}

// TestLongRuns: P14.4 for states that follow one another, with power failures in Save and in Open, and with disks that are full at times.
func TestLongRuns(t *testing.T) {
	runs := 60
	if testing.Short() {
		runs = 10
	}
	for seed := range runs {
		random := rand.New(rand.NewSource(int64(seed)))
		d, h := plate(400+seed*100, -1), api.Hard{}
		for range 300 {
			next := drift(random, h)
			if random.Intn(5) == 0 {
				d = cut(t, d, random.Intn(6))
			}
			if _, slow := slowSave(d, h, next); slow != api.OK || random.Intn(10) == 0 {
				checkSaveDefined(t, "a run", d, h, next)
			}
			after, e := wal.Save(d, h, next)
			if !disk.Right(after) {
				t.Fatalf("%s is not valid", brief(after))
			}
			d = after
			may := []api.Hard{next}
			switch e {
			case api.OK:
			case api.ErrFull:
				may = []api.Hard{h}
			case api.ErrDown:
				may = append(may, h)
			default:
				t.Fatalf("Save of %s behind %s answers %d", brief(next), brief(h), e)
			}
			d, h = reopened(t, random, d, may)
		}
	}
}

// reopened is a disk that is opened, behind crashes if there are any, until its state is told.
func reopened(t *testing.T, random *rand.Rand, d api.Disk, may []api.Hard) (api.Disk, api.Hard) {
	t.Helper()
	if !d.Down && len(may) == 1 && random.Intn(3) > 0 {
		return d, may[0]
	}
	for range 20 {
		if d.Down || random.Intn(3) == 0 {
			d = crashed(t, d, random.Intn(200), random.Intn(200))
		}
		if random.Intn(2) == 0 {
			d = cut(t, d, random.Intn(5))
		}
		after, h, e := wal.Open(d)
		checkOpenDefined(t, "a run", d)
		d = after
		if e == api.OK && slices.ContainsFunc(may, func(x api.Hard) bool { return sameState(x, h) }) {
			return d, h
		}
		if e == api.ErrFull {
			d = cleared(t, d)
		} else if e != api.ErrDown {
			t.Fatalf("Open of %s answers %s, %d, and none of %s", brief(d), brief(h), e, brief(may))
		}
	}
	t.Fatalf("%s is not opened", brief(d))
	return d, api.Hard{}
}

// cleared is a full disk with more room.
func cleared(t *testing.T, d api.Disk) api.Disk {
	t.Helper()
	d.Room += 1000
	if !disk.Right(d) {
		t.Fatalf("%s is not valid", brief(d))
	}
	return d
}

// source takes numbers and texts off a string.
type source string

func (s *source) number(n int) int {
	if *s == "" {
		return 0
	}
	b := int((*s)[0])
	*s = (*s)[1:]
	return b % n
}

func (s *source) text() string {
	n := min(s.number(20), len(*s))
	text := string((*s)[:n])
	*s = (*s)[n:]
	return text
}

// state makes a state of what is taken: mostly a valid one.
func (s *source) state() api.Hard {
	h := state(s.number(9), s.number(11), log(0, 0), s.text())
	if s.number(2) == 1 {
		h.Log.Base, h.Log.BaseTerm = s.number(200), s.number(5)
	}
	for id := range s.number(5) {
		h.Voters = append(h.Voters, id+1+s.number(2))
	}
	term := h.Log.BaseTerm
	for range s.number(6) {
		term += s.number(3)
		h.Log.Records = append(h.Log.Records, record(term, s.number(3), s.text()))
	}
	return h
}

// body makes a body of a file log: a number, a state, a change or anything.
func (s *source) body() string {
	switch s.number(5) {
	case 0:
		return writtenNumbers(s.number(4))
	case 1:
		return writtenState(s.state())
	case 2, 3:
		h := s.state()
		return writtenChange(h.Term, h.Vote, s.number(12), h.Log.Records...)
	}
	return s.text()
}

// FuzzGet: P14.1 for any string, and for states of any kind.
func FuzzGet(f *testing.F) {
	f.Add("li1ei2ei0ei0e0:lelee")
	f.Add("li7ei1ei2ei7e1:eli1ei2eelli7ei1e3:i0eeee")
	f.Add("li1ei0ei0ei0e0:lelli1ei0e0:eee")
	f.Fuzz(func(t *testing.T, s string) {
		checkGetDefined(t, "any bytes", s)
		x := source(s)
		checkStateDefined(t, "any state", x.state())
	})
}

// FuzzOpen: P14.3 for files of any kind.
func FuzzOpen(f *testing.F) {
	f.Add("\x01\x01\x05\x02\x03abc", "x", 1000, -1)
	f.Add("\x05\x02\x02\x01\x02\x02\x01", "", 200, 0)
	f.Add("", "\x00", 300, 2)
	f.Fuzz(func(t *testing.T, data, tail string, room, left int) {
		x := source(data)
		h := x.state()
		var bodies []string
		for x != "" {
			bodies = append(bodies, x.body())
		}
		for _, bytes := range []string{framed(bodies...), logOf(h, bodies...), data} {
			for _, behind := range []string{"", tail} {
				checkOpenDefined(t, "any file", plate(room, left, file("log", bytes, behind)))
				checkOpenDefined(t, "any file", roomy(file("log", bytes+behind, "")))
				checkOpenDefined(t, "any files", plate(room, left, file("log", behind+bytes, data), file("log.new", data, tail)))
			}
		}
	})
}

// FuzzSave: P14.2 and P14.4 for states of any kind.
func FuzzSave(f *testing.F) {
	f.Add("\x05\x02\x03abc\x01\x09\x02\x02\x01\x00\x02\x01\x01\x03def", "\x06\x02\x03abc\x01\x09\x02\x02\x01\x00\x02\x01\x01\x03def", "x", 1000, 1)
	f.Add("", "\x01", "", 300, -1)
	f.Add("\x01\x02", "\x03", "yz", 50, 0)
	f.Fuzz(func(t *testing.T, before, behind, leftover string, room, left int) {
		x, y := source(before), source(behind)
		old, now := x.state(), y.state()
		d := plate(room, left, file("log.new", leftover, before))
		checkSaveDefined(t, "any states", d, old, now)
		checkSaveDefined(t, "any states", plate(room, left, held(old), d.Files[0]), old, now)
		if !wal.Right(old) || !wal.Right(now) {
			return
		}
		interrupted(t, saved(t, roomy(), api.Hard{}, old), old, now)
	})
}
