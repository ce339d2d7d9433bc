package disk_test

import (
	"maps"
	"math/rand"
	"strconv"
	"strings"
	"testing"

	"hornbook/api"
	"hornbook/disk"
)

// run is a disk that calls were made on since it had no files, with what they should have come to.
type run struct {
	d       api.Disk
	lasting map[string]string // by file: what is there behind every crash
	behind  map[string]string // by file: what was written since, and may be lost from some byte on
}

func started(room int) run {
	return run{d: plate(room, -1), lasting: map[string]string{}, behind: map[string]string{}}
}

// forked answers a run that goes its own way from here on.
func (r run) forked() run {
	r.lasting, r.behind = maps.Clone(r.lasting), maps.Clone(r.behind)
	return r
}

// step is a call with what it does to a run, with power; torn tells whether it does so without power as well.
type step struct {
	change
	effect func(r *run)
	torn   bool
}

func writing(name, bytes string) step {
	return step{write(name, bytes), func(r *run) {
		r.lasting[name] += ""
		r.behind[name] += bytes
	}, true}
}

func syncing(name string) step {
	return step{sync(name), func(r *run) {
		r.lasting[name] += r.behind[name]
		r.behind[name] = ""
	}, false}
}

func renaming(from, to string) step {
	return step{rename(from, to), func(r *run) {
		contents := r.lasting[from]
		delete(r.lasting, from)
		r.lasting[to], r.behind[to] = contents, ""
	}, false}
}

func removing(name string) step {
	return step{remove(name), func(r *run) {
		delete(r.lasting, name)
		delete(r.behind, name)
	}, false}
}

// made makes a call with power.
func (r *run) made(t *testing.T, s step) {
	t.Helper()
	want, wantErr := s.slowly(r.d)
	got, e := s.of(r.d)
	if !same(got, want) || e != wantErr {
		t.Fatalf("%s on %s answers %s, %d, not %s, %d", s.what, brief(r.d), brief(got), e, brief(want), wantErr)
	}
	if e == api.OK {
		r.d = got
		s.effect(r)
	}
}

// failed makes a call in which the power fails; it tells whether the call came so far.
func (r *run) failed(t *testing.T, s step) bool {
	t.Helper()
	last, e := disk.Cut(r.d, 0)
	if e != api.OK {
		t.Fatalf("Cut of %s answers %d", brief(r.d), e)
	}
	got, e := s.of(last)
	if e != api.ErrDown {
		if want, wantErr := s.slowly(last); e != wantErr || !same(got, want) {
			t.Fatalf("%s on %s answers %s, %d, not %s, %d", s.what, brief(last), brief(got), e, brief(want), wantErr)
		}
		return false
	}
	r.d = got
	if s.torn {
		s.effect(r)
	}
	return true
}

// crashed looks at what is there behind a crash, and goes on with it: P13.7.
func (r *run) crashed(t *testing.T, keep []int) {
	t.Helper()
	got, e := disk.Crash(r.d, keep)
	if e != api.OK || got.Down || got.Left != -1 || len(got.Files) != len(r.lasting) {
		t.Fatalf("Crash of %s with %v answers %s, %d", brief(r.d), keep, brief(got), e)
	}
	for i, f := range got.Files {
		lasting, is := r.lasting[f.Name]
		contents, e := disk.Read(got, f.Name)
		if e != api.OK || !is || contents != f.Synced || f.Tail != "" {
			t.Fatalf("Crash of %s with %v: file %s is not as it should be", brief(r.d), keep, brief(f))
		}
		rest, is := strings.CutPrefix(contents, lasting)
		if !is || !strings.HasPrefix(r.behind[f.Name], rest) {
			t.Fatalf("Crash of %s with %v: file %s is not %s and then some of %s", brief(r.d), keep, brief(f), brief(lasting), brief(r.behind[f.Name]))
		}
		if i < len(keep) && keep[i] >= 0 && len(rest) != min(keep[i], len(r.behind[f.Name])) {
			t.Fatalf("Crash of %s with %v: %d bytes of the Tail of %s last", brief(r.d), keep, len(rest), brief(f))
		}
		r.lasting[f.Name], r.behind[f.Name] = contents, ""
	}
	r.d = got
}

// keeps are numbers for a crash: nothing, one byte, one of the second file alone, all.
func keeps() [][]int { return [][]int{nil, {1, 0}, {-1, 1}, {99, 99, 99, 99, 99, 99, 99, 99}} }

// checkRun: whatever crash there is now, the files are what they should be.
func checkRun(t *testing.T, r run) {
	t.Helper()
	if !disk.Right(r.d) {
		t.Fatalf("%s is not valid", brief(r.d))
	}
	for _, keep := range keeps() {
		next := r.forked()
		next.crashed(t, keep)
	}
}

// TestAllSequences: P13.7 for each sequence of up to four calls on two files, each of them with power or without.
func TestAllSequences(t *testing.T) {
	steps := []step{
		writing("a", "12"), writing("b", "3"), syncing("a"), syncing("b"),
		renaming("a", "b"), renaming("b", "a"), removing("a"), removing("b"),
	}
	var follow func(r run, left int)
	follow = func(r run, left int) {
		checkRun(t, r)
		if left == 0 {
			return
		}
		for _, s := range steps {
			next := r.forked()
			next.made(t, s)
			follow(next, left-1)
			next = r.forked()
			if !next.failed(t, s) {
				continue
			}
			for _, keep := range keeps()[1:] {
				again := next.forked()
				again.crashed(t, keep)
				follow(again, left-1)
			}
		}
	}
	length := 4
	if testing.Short() {
		length = 3
	}
	follow(started(5), length)
}

// TestLongSequences: P13.7 for long sequences with many files.
func TestLongSequences(t *testing.T) {
	rounds := 60
	if testing.Short() {
		rounds = 10
	}
	for seed := range rounds {
		random := rand.New(rand.NewSource(int64(seed)))
		r := started(20 + seed*10)
		name := func() string { return "f" + strconv.Itoa(random.Intn(4+seed%8)) }
		for range 300 {
			var s step
			switch random.Intn(6) {
			case 0, 1:
				s = writing(name(), strings.Repeat(strconv.Itoa(random.Intn(100)), random.Intn(8)))
			case 2:
				s = syncing(name())
			case 3:
				s = removing(name())
			default:
				s = renaming(name(), name())
			}
			if random.Intn(20) > 0 {
				r.made(t, s)
			} else if r.failed(t, s) {
				var keep []int
				for range random.Intn(9) {
					keep = append(keep, random.Intn(12)-2)
				}
				r.crashed(t, keep)
			}
			checkRun(t, r)
		}
	}
}

// TestCutInSequences: with a Left of n, n calls that are not refused take effect, and the one behind them is the one in which the power fails.
func TestCutInSequences(t *testing.T) {
	steps := []step{writing("a", "1"), syncing("a"), syncing("none"), writing("b", text(99)), writing("b", ""), renaming("a", "b"), renaming("a", "b"), removing("b"), writing("c", "2"), removing("c")}
	for left := range 12 {
		r := started(10)
		d, e := disk.Cut(r.d, left)
		if e != api.OK {
			t.Fatalf("Cut to %d answers %d", left, e)
		}
		r.d = d
		done := 0
		for _, s := range steps {
			got, e := s.of(r.d)
			switch {
			case e == api.OK:
				done++
				r.d = got
			case e == api.ErrDown && !r.d.Down:
				if done != left || !got.Down {
					t.Errorf("the power fails behind %d calls, not %d", done, left)
				}
				r.d = got
			case r.d.Down && (e != api.ErrDown || !same(got, api.Disk{})):
				t.Errorf("%s on a disk that is Down answers %s, %d", s.what, brief(got), e)
			}
		}
		if r.d.Down != (left < 7) || done != min(left, 7) || !r.d.Down && r.d.Left != left-7 {
			t.Errorf("with a Left of %d there are %d calls, and then %s", left, done, brief(r.d))
		}
	}
}

// part takes some bytes off a string, as many as its first byte says.
func part(s *string) string {
	if *s == "" {
		return ""
	}
	n := min(int((*s)[0])%20, len(*s)-1)
	out := (*s)[1 : 1+n]
	*s = (*s)[1+n:]
	return out
}

// named makes a name of any bytes: mostly a good one.
func named(s string) string {
	b := []byte(s)
	for i := range b {
		if b[i] >= 4 {
			b[i] = "abcdefghijklmnopqrstuvwxyz0123456789."[b[i]%37]
		}
	}
	return string(b)
}

// FuzzDisk: P13.1 to P13.6 for disks of any kind, against the chapter's words; and P13.7 for the calls that the bytes tell.
func FuzzDisk(f *testing.F) {
	f.Add(10, -1, false, "\x01a\x02xy\x01z", "a", "xy", 1)
	f.Add(0, 0, true, "", ".", "", -1)
	f.Add(30, 1, false, "\x01a\x02xy\x01z\x01b\x00\x00\x02cd\x01e\x00", "b", "12345678901234567890", 5)
	f.Add(3, 5, false, "\x01b\x00\x00\x01a\x00\x00", "\x00", "", 1<<30)
	f.Add(1<<20, 1<<30, false, "\x11aaaaaaaaaaaaaaaaa\x01x\x00", "z", "y", 2)
	f.Fuzz(func(t *testing.T, room, left int, fallen bool, data, name, bytes string, n int) {
		d := api.Disk{Room: room, Left: left, Down: fallen}
		for rest := data; rest != ""; {
			d.Files = append(d.Files, file(named(part(&rest)), part(&rest), part(&rest)))
		}
		names := []string{name, named(name)}
		for i, x := range d.Files {
			if i < 10 {
				names = append(names, x.Name)
			}
		}
		checkDefined(t, d, names, []string{"", bytes}, []int{n, n % 10, -n, left})
		r := started(30)
		for i := range min(len(data), 200) {
			a, b := string('a'+data[i]%3), string('a'+data[i]/3%3)
			s := [...]step{writing(a, b), writing(a, name), syncing(a), renaming(a, b), removing(a)}[int(data[i])/9%5]
			if data[i] < 240 {
				r.made(t, s)
			} else if r.failed(t, s) {
				r.crashed(t, []int{n % 10, i % 3, int(data[i]) % 4})
			}
			checkRun(t, r)
		}
	})
}
