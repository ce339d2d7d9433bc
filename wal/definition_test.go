package wal_test

import (
	"fmt"
	"reflect"
	"slices"
	"strconv"
	"strings"
	"testing"

	"hornbook/api"
	"hornbook/code"
	"hornbook/disk"
	"hornbook/frame"
	"hornbook/wal"
)

const (
	top      = 1073741824 // 2^30, the greatest Term and the greatest index
	roomiest = 1048576    // 2^20, the greatest Room
)

// record, log and state are a record, a log and a state, right or wrong.
func record(term, kind int, data string) api.Record {
	return api.Record{Term: term, Kind: kind, Data: data}
}
func log(base, baseTerm int, records ...api.Record) api.Log {
	return api.Log{Base: base, BaseTerm: baseTerm, Records: records}
}
func state(term, vote int, l api.Log, snap string, voters ...int) api.Hard {
	return api.Hard{Term: term, Vote: vote, Log: l, Snap: snap, Voters: voters}
}

// plate is a disk that is not Down, down one that is, file a file of theirs.
func plate(room, left int, files ...api.File) api.Disk {
	return api.Disk{Room: room, Files: files, Left: left}
}
func down(d api.Disk) api.Disk {
	d.Down = true
	return d
}
func file(name, synced, tail string) api.File {
	return api.File{Name: name, Synced: synced, Tail: tail}
}

func letters(n int) string { return strings.Repeat("x", n) }

// some is so many records of a term, each unlike the others.
func some(n, term int) []api.Record {
	var l []api.Record
	for i := range n {
		l = append(l, record(term, i%3, "r"+strconv.Itoa(i)))
	}
	return l
}

// sized is a valid state whose encoding has so many bytes, at least 1000.
func sized(t testing.TB, term, n int) api.Hard {
	t.Helper()
	for less := range 200 {
		h := state(term, 2, log(5, 1), letters(n-less), 1, 2)
		if len(writtenState(h)) == n {
			return h
		}
	}
	t.Fatalf("%d bytes are not to be had", n)
	return api.Hard{}
}

// within tells whether a number is one from lo to hi.
func within(n, lo, hi int) bool { return !(n < lo) && !(n > hi) }

// slowRight takes the definition of a valid state word by word.
func slowRight(h api.Hard) bool {
	faults := 0
	fault := func(is bool) {
		if is {
			faults++
		}
	}
	fault(!within(h.Term, 0, top))
	fault(!within(h.Vote, 0, 9))
	fault(!within(h.Log.Base, 0, top))
	fault(!within(h.Log.BaseTerm, 0, h.Term))
	fault(h.Log.BaseTerm == 0 && h.Log.Base != 0)
	fault(h.Log.BaseTerm != 0 && h.Log.Base == 0)
	fault(len(h.Log.Records) >= 201)
	fault(h.Log.Base > top-len(h.Log.Records))
	for i, r := range h.Log.Records {
		fault(!within(r.Term, 1, h.Term))
		fault(i == 0 && r.Term < h.Log.BaseTerm)
		fault(i > 0 && r.Term < h.Log.Records[i-1].Term)
		fault(!slices.Contains([]int{0, 1, 2}, r.Kind))
		fault(len(r.Data) >= 8193)
	}
	fault(len(h.Voters) >= 8)
	for i, id := range h.Voters {
		fault(!within(id, 1, 9))
		fault(i > 0 && !(h.Voters[i-1] < id))
	}
	fault(len(writtenState(h)) >= 131073)
	return faults == 0
}

// The written functions answer what the definition of an encoding makes of what is right or wrong.
func writtenNumbers(l ...int) string {
	var b strings.Builder
	for _, n := range l {
		b.WriteString("i" + strconv.Itoa(n) + "e")
	}
	return b.String()
}

func writtenText(s string) string { return strconv.Itoa(len(s)) + ":" + s }

func writtenRecords(l []api.Record) string {
	var b strings.Builder
	for _, r := range l {
		b.WriteString("l" + writtenNumbers(r.Term, r.Kind) + writtenText(r.Data) + "e")
	}
	return "l" + b.String() + "e"
}

func writtenState(h api.Hard) string {
	return "l" + writtenNumbers(h.Term, h.Vote, h.Log.Base, h.Log.BaseTerm) + writtenText(h.Snap) + "l" + writtenNumbers(h.Voters...) + "e" + writtenRecords(h.Log.Records) + "e"
}

func writtenChange(term, vote, keep int, records ...api.Record) string {
	return "l" + writtenNumbers(term, vote, keep) + writtenRecords(records) + "e"
}

// framed is the frames of bodies; what frame.Put answers is given.
func framed(bodies ...string) string {
	var b strings.Builder
	for _, body := range bodies {
		s, e := frame.Put(body)
		if e != api.OK {
			panic("a body of " + strconv.Itoa(len(body)) + " bytes")
		}
		b.WriteString(s)
	}
	return b.String()
}

// imageOf is the bodies of a state's image.
func imageOf(h api.Hard) []string {
	s := writtenState(h)
	bodies := []string{writtenNumbers((len(s) + 59999) / 60000)}
	for from := 0; from < len(s); from += 60000 {
		bodies = append(bodies, s[from:min(from+60000, len(s))])
	}
	return bodies
}

// logOf is the contents of a file log: a state's image, and the bodies behind it.
func logOf(h api.Hard, bodies ...string) string {
	return framed(imageOf(h)...) + framed(bodies...)
}

func slowPut(h api.Hard) (string, api.Errno) {
	if !slowRight(h) {
		return "", 1
	}
	return writtenState(h), 0
}

// at answers the element at a place of a value, or one that is nothing.
func at(v api.Val, i int) api.Val {
	if i < len(v.L) {
		return v.L[i]
	}
	return api.Val{}
}

func numberAt(v api.Val, i int) int { return int(at(v, i).N) }

func recordsIn(v api.Val) []api.Record {
	var l []api.Record
	for _, x := range v.L {
		l = append(l, record(numberAt(x, 0), numberAt(x, 1), at(x, 2).S))
	}
	return l
}

// slowGet takes whatever stands where a state's parts do: the value has the form if they are written the same, as no two values are.
func slowGet(s string) (api.Hard, api.Errno) {
	v, e, _ := code.Get(s)
	if e != 0 {
		return api.Hard{}, e
	}
	h := state(numberAt(v, 0), numberAt(v, 1), log(numberAt(v, 2), numberAt(v, 3), recordsIn(at(v, 6))...), at(v, 4).S)
	for i := range at(v, 5).L {
		h.Voters = append(h.Voters, numberAt(at(v, 5), i))
	}
	if writtenState(h) != s || !slowRight(h) {
		return api.Hard{}, 1
	}
	return h, 0
}

// action is a call on a disk; what package disk answers is given.
type action func(d api.Disk) (api.Disk, api.Errno)

// inTurn makes calls one behind the other, until one answers an error.
func inTurn(d api.Disk, actions ...action) (api.Disk, api.Errno) {
	for _, a := range actions {
		next, e := a(d)
		if e == 0 || next.Down {
			d = next
		}
		if e != 0 {
			return d, e
		}
	}
	return d, 0
}

func writing(name, bytes string) action {
	return func(d api.Disk) (api.Disk, api.Errno) { return disk.Write(d, name, bytes) }
}
func syncing(name string) action {
	return func(d api.Disk) (api.Disk, api.Errno) { return disk.Sync(d, name) }
}

func hasFile(d api.Disk, name string) bool {
	return slices.ContainsFunc(d.Files, func(f api.File) bool { return f.Name == name })
}

func slowRewrite(d api.Disk, h api.Hard) (api.Disk, api.Errno) {
	var actions []action
	if hasFile(d, "log.new") {
		actions = append(actions, func(d api.Disk) (api.Disk, api.Errno) { return disk.Remove(d, "log.new") })
	}
	actions = append(actions, writing("log.new", logOf(h)), syncing("log.new"), func(d api.Disk) (api.Disk, api.Errno) { return disk.Rename(d, "log.new", "log") })
	return inTurn(d, actions...)
}

// changeOf is the body of the change between two states: false, if there is something else that differs.
func changeOf(old, now api.Hard) (string, bool) {
	a, b := old.Log.Records, now.Log.Records
	kept, differ := 0, false
	for i := range min(len(a), len(b)) {
		differ = differ || writtenRecords(a[i:i+1]) != writtenRecords(b[i:i+1])
		if !differ {
			kept = i + 1
		}
	}
	body := writtenChange(now.Term, now.Vote, now.Log.Base+kept, b[kept:]...)
	old.Term, old.Vote, old.Log.Records = now.Term, now.Vote, now.Log.Records
	return body, writtenState(old) == writtenState(now)
}

func slowSave(d api.Disk, old, now api.Hard) (api.Disk, api.Errno) {
	if !disk.Right(d) || !slowRight(old) || !slowRight(now) {
		return d, 1
	}
	if d.Down {
		return d, 132
	}
	if hasFile(d, "log") {
		if writtenState(old) == writtenState(now) {
			return d, 0
		}
		if body, ok := changeOf(old, now); ok && len(body) < 65537 {
			return inTurn(d, writing("log", framed(body)), syncing("log"))
		}
	}
	return slowRewrite(d, now)
}

// slowChanged answers the state that the body of a change makes of one.
func slowChanged(h api.Hard, body string) (api.Hard, bool) {
	v, e, _ := code.Get(body)
	keep, more := numberAt(v, 2), recordsIn(at(v, 3))
	if e != 0 || writtenChange(numberAt(v, 0), numberAt(v, 1), keep, more...) != body {
		return api.Hard{}, false
	}
	if !within(keep, h.Log.Base, h.Log.Base+len(h.Log.Records)) {
		return api.Hard{}, false
	}
	var records []api.Record
	for i, r := range h.Log.Records {
		if index := h.Log.Base + 1 + i; index <= keep {
			records = append(records, r)
		}
	}
	h.Term, h.Vote, h.Log.Records = numberAt(v, 0), numberAt(v, 1), append(records, more...)
	return h, slowRight(h)
}

// slowTold answers the state that the bodies of a file log tell.
func slowTold(bodies []string) (api.Hard, bool) {
	for k := 1; k < 10; k++ {
		if len(bodies) <= k || bodies[0] != writtenNumbers(k) {
			continue
		}
		for _, piece := range bodies[1:k] {
			if len(piece) != 60000 {
				return api.Hard{}, false
			}
		}
		h, e := slowGet(strings.Join(bodies[1:k+1], ""))
		ok := e == 0 && within(len(bodies[k]), 1, 60000)
		for _, body := range bodies[k+1:] {
			if ok {
				h, ok = slowChanged(h, body)
			}
		}
		return h, ok
	}
	return api.Hard{}, false
}

func slowOpen(d api.Disk) (api.Disk, api.Hard, api.Errno) {
	if !disk.Right(d) {
		return d, api.Hard{}, 1
	}
	if d.Down {
		return d, api.Hard{}, 132
	}
	if !hasFile(d, "log") {
		return d, api.Hard{}, 0
	}
	s, _ := disk.Read(d, "log")
	bodies, end := frame.Scan(s)
	h, ok := slowTold(bodies)
	if !ok {
		return d, api.Hard{}, 61
	}
	if end == len(s) {
		return d, h, 0
	}
	d, e := slowRewrite(d, h)
	if e != 0 {
		return d, api.Hard{}, e
	}
	return d, h, 0
}

// brief tells anything, as far as one can read on.
func brief(x any) string {
	s := strconv.Quote(fmt.Sprintf("%+v", x))
	if len(s) > 400 {
		return s[:400] + ".. (" + strconv.Itoa(len(s)) + ")"
	}
	return s
}

func sameState(a, b api.Hard) bool {
	return a.Term == b.Term && a.Vote == b.Vote && a.Log.Base == b.Log.Base && a.Log.BaseTerm == b.Log.BaseTerm &&
		a.Snap == b.Snap && slices.Equal(a.Voters, b.Voters) && slices.Equal(a.Log.Records, b.Log.Records)
}

func sameDisk(a, b api.Disk) bool {
	equal := slices.Equal(a.Files, b.Files)
	a.Files, b.Files = nil, nil
	return equal && reflect.DeepEqual(a, b)
}

// guarded answers a slice that is the same, with room behind it that is written to, and a function that tells whether all of this is as it was.
func guarded[T comparable](l []T, mark T) ([]T, func() bool) {
	if l == nil {
		return nil, func() bool { return true }
	}
	all := slices.Concat(l, []T{mark, mark, mark})
	before := slices.Clone(all)
	return all[:len(l)], func() bool { return slices.Equal(all, before) }
}

func guardedState(h api.Hard) (api.Hard, func() bool) {
	records, recordsIntact := guarded(h.Log.Records, record(-1, -1, "mark"))
	voters, votersIntact := guarded(h.Voters, -1)
	h.Log.Records, h.Voters = records, voters
	return h, func() bool { return recordsIntact() && votersIntact() }
}

func guardedDisk(d api.Disk) (api.Disk, func() bool) {
	files, intact := guarded(d.Files, file("mark", "mark", "mark"))
	d.Files = files
	return d, intact
}

// scribble writes over all that an answer's list may write to: whatever shares memory with it is changed.
func scribble[T any](l []T) {
	var none T
	l = l[:cap(l)]
	for i := range l {
		l[i] = none
	}
}

func checkKept(t testing.TB, name string, intact ...func() bool) {
	t.Helper()
	for _, is := range intact {
		if !is() {
			t.Errorf("%s: an argument is changed", name)
		}
	}
}

// The check functions hold an answer against the one that is wanted, and that against the second reckoning.

func checkRight(t testing.TB, name string, h api.Hard, want bool) {
	t.Helper()
	if slow := slowRight(h); slow != want {
		t.Errorf("%s: Right of %s should be %t, and is %t by the second reckoning", name, brief(h), want, slow)
	}
	a, intact := guardedState(h)
	if got := wal.Right(a); got != want {
		t.Errorf("%s: Right of %s answers %t", name, brief(h), got)
	}
	checkKept(t, name+": Right", intact)
}

func checkPut(t testing.TB, name string, h api.Hard, want string, wantErr api.Errno) {
	t.Helper()
	if slow, e := slowPut(h); slow != want || e != wantErr {
		t.Errorf("%s: Put of %s should answer %s, %d, and by the second reckoning %s, %d", name, brief(h), brief(want), wantErr, brief(slow), e)
	}
	a, intact := guardedState(h)
	if got, e := wal.Put(a); got != want || e != wantErr {
		t.Errorf("%s: Put of %s answers %s, %d, not %s, %d", name, brief(h), brief(got), e, brief(want), wantErr)
	}
	checkKept(t, name+": Put", intact)
}

func checkGet(t testing.TB, name, s string, want api.Hard, wantErr api.Errno) {
	t.Helper()
	if slow, e := slowGet(s); !sameState(slow, want) || e != wantErr {
		t.Errorf("%s: Get of %s should answer %s, %d, and by the second reckoning %s, %d", name, brief(s), brief(want), wantErr, brief(slow), e)
	}
	if got, e := wal.Get(s); !sameState(got, want) || e != wantErr {
		t.Errorf("%s: Get of %s answers %s, %d, not %s, %d", name, brief(s), brief(got), e, brief(want), wantErr)
	}
}

func checkSave(t testing.TB, name string, d api.Disk, old, now api.Hard, want api.Disk, wantErr api.Errno) {
	t.Helper()
	if slow, e := slowSave(d, old, now); !sameDisk(slow, want) || e != wantErr {
		t.Errorf("%s: Save of %s should answer %s, %d, and by the second reckoning %s, %d", name, brief(now), brief(want), wantErr, brief(slow), e)
	}
	a, diskIntact := guardedDisk(d)
	b, oldIntact := guardedState(old)
	c, nowIntact := guardedState(now)
	got, e := wal.Save(a, b, c)
	if !sameDisk(got, want) || e != wantErr {
		t.Errorf("%s: Save of %s behind %s on %s answers %s, %d, not %s, %d", name, brief(now), brief(old), brief(d), brief(got), e, brief(want), wantErr)
	}
	scribble(got.Files)
	checkKept(t, name+": Save", diskIntact, oldIntact, nowIntact)
}

func checkOpen(t testing.TB, name string, d, want api.Disk, wantState api.Hard, wantErr api.Errno) {
	t.Helper()
	if slow, h, e := slowOpen(d); !sameDisk(slow, want) || !sameState(h, wantState) || e != wantErr {
		t.Errorf("%s: Open of %s should answer %s, %s, %d, and by the second reckoning %s, %s, %d", name, brief(d), brief(want), brief(wantState), wantErr, brief(slow), brief(h), e)
	}
	a, intact := guardedDisk(d)
	got, h, e := wal.Open(a)
	if !sameDisk(got, want) || !sameState(h, wantState) || e != wantErr {
		t.Errorf("%s: Open of %s answers %s, %s, %d, not %s, %s, %d", name, brief(d), brief(got), brief(h), e, brief(want), brief(wantState), wantErr)
	}
	scribble(got.Files)
	checkKept(t, name+": Open", intact)
}

// The defined functions hold what the package answers against the second reckoning alone.

func checkStateDefined(t testing.TB, name string, h api.Hard) {
	t.Helper()
	checkRight(t, name, h, slowRight(h))
	s, e := slowPut(h)
	checkPut(t, name, h, s, e)
	checkGetDefined(t, name, writtenState(h))
}

func checkGetDefined(t testing.TB, name, s string) {
	t.Helper()
	h, e := slowGet(s)
	checkGet(t, name, s, h, e)
}

func checkSaveDefined(t testing.TB, name string, d api.Disk, old, now api.Hard) {
	t.Helper()
	want, e := slowSave(d, old, now)
	checkSave(t, name, d, old, now, want, e)
}

func checkOpenDefined(t testing.TB, name string, d api.Disk) {
	t.Helper()
	want, h, e := slowOpen(d)
	checkOpen(t, name, d, want, h, e)
}
