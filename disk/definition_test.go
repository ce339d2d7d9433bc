package disk_test

import (
	"fmt"
	"reflect"
	"slices"
	"strconv"
	"strings"
	"testing"

	"hornbook/api"
	"hornbook/disk"
)

const (
	roomiest = 1048576    // 2^20, the greatest Room
	latest   = 1073741824 // 2^30, the greatest Left
)

// file is a file, plate a disk that is not Down, down one that is; each of them right or wrong.
func file(name, synced, tail string) api.File {
	return api.File{Name: name, Synced: synced, Tail: tail}
}
func plate(room, left int, files ...api.File) api.Disk {
	return api.Disk{Room: room, Files: files, Left: left}
}
func down(d api.Disk) api.Disk {
	d.Down = true
	return d
}

func text(n int) string { return strings.Repeat("x", n) }

// crowd is so many files that rise, f1 to f9, each of one synced byte.
func crowd(n int) []api.File {
	var l []api.File
	for i := range n {
		l = append(l, file("f"+strconv.Itoa(i+1), strconv.Itoa(i+1), ""))
	}
	return l
}

// slowName takes the definition of a file name word by word.
func slowName(name string) bool {
	for i := range []byte(name) {
		if !strings.Contains("abcdefghijklmnopqrstuvwxyz0123456789.", name[i:i+1]) {
			return false
		}
	}
	return name != "" && len(name) < 17
}

// slowRight takes the definition of a valid disk word by word.
func slowRight(d api.Disk) bool {
	all, names := "", []string{}
	for _, f := range d.Files {
		all += f.Synced + f.Tail
		if !slowName(f.Name) {
			return false
		}
		names = append(names, f.Name)
	}
	rising := slices.Compact(slices.Sorted(slices.Values(names)))
	return slices.Equal(names, rising) && len(names) < 9 &&
		!(d.Room < 0) && !(d.Room > roomiest) && !(len(all) > d.Room) &&
		!(d.Left < -1) && !(d.Left > latest)
}

// shelf is files under their names, in no order.
type shelf map[string]api.File

// bytes answers how many bytes there are in all.
func (s shelf) bytes() int {
	n := 0
	for _, f := range s {
		n += len(f.Synced + f.Tail)
	}
	return n
}

// shelved is the files of a disk, files what a disk with these has.
func shelved(d api.Disk) shelf {
	s := shelf{}
	for _, f := range d.Files {
		s[f.Name] = f
	}
	return s
}

func (s shelf) files() []api.File {
	var l []api.File
	for name, f := range s {
		f.Name = name
		l = append(l, f)
	}
	slices.SortFunc(l, func(a, b api.File) int { return strings.Compare(a.Name, b.Name) })
	return l
}

// slowCall tells a call word by word: own is its own error, powered and failing change the files.
func slowCall(d api.Disk, names []string, own func(shelf) api.Errno, powered, failing func(shelf)) (api.Disk, api.Errno) {
	if !slowRight(d) {
		return api.Disk{}, 1
	}
	for _, name := range names {
		if !slowName(name) {
			return api.Disk{}, 1
		}
	}
	if d.Down {
		return api.Disk{}, 132
	}
	s := shelved(d)
	if e := own(s); e != 0 {
		return api.Disk{}, e
	}
	if d.Left == 0 {
		failing(s)
		return api.Disk{Room: d.Room, Files: s.files(), Left: 0, Down: true}, 132
	}
	powered(s)
	left := d.Left
	if left > 0 {
		left--
	}
	return api.Disk{Room: d.Room, Files: s.files(), Left: left}, 0
}

func nothing(shelf) {}

// missing is the own error of a call that wants a file.
func missing(name string) func(shelf) api.Errno {
	return func(s shelf) api.Errno {
		if _, is := s[name]; !is {
			return 60
		}
		return 0
	}
}

func slowWrite(d api.Disk, name, bytes string) (api.Disk, api.Errno) {
	own := func(s shelf) api.Errno {
		if _, is := s[name]; !is && len(s) == 8 || s.bytes()+len(bytes) > d.Room {
			return 130
		}
		return 0
	}
	appended := func(s shelf) { s[name] = file(name, s[name].Synced, s[name].Tail+bytes) }
	return slowCall(d, []string{name}, own, appended, appended)
}

func slowSync(d api.Disk, name string) (api.Disk, api.Errno) {
	synced := func(s shelf) { s[name] = file(name, s[name].Synced+s[name].Tail, "") }
	return slowCall(d, []string{name}, missing(name), synced, nothing)
}

func slowRename(d api.Disk, from, to string) (api.Disk, api.Errno) {
	own := func(s shelf) api.Errno {
		if e := missing(from)(s); e != 0 {
			return e
		}
		if s[from].Tail != "" {
			return 131
		}
		return 0
	}
	renamed := func(s shelf) {
		f := s[from]
		delete(s, from)
		s[to] = f
	}
	return slowCall(d, []string{from, to}, own, renamed, nothing)
}

func slowRemove(d api.Disk, name string) (api.Disk, api.Errno) {
	return slowCall(d, []string{name}, missing(name), func(s shelf) { delete(s, name) }, nothing)
}

func slowRead(d api.Disk, name string) (string, api.Errno) {
	if !slowRight(d) || !slowName(name) {
		return "", 1
	}
	if d.Down {
		return "", 132
	}
	f, is := shelved(d)[name]
	if !is {
		return "", 60
	}
	return f.Synced + f.Tail, 0
}

func slowCut(d api.Disk, left int) (api.Disk, api.Errno) {
	if !slowRight(d) || left < -1 || left > latest {
		return api.Disk{}, 1
	}
	if d.Down {
		return api.Disk{}, 132
	}
	return plate(d.Room, left, d.Files...), 0
}

func slowCrash(d api.Disk, keep []int) (api.Disk, api.Errno) {
	if !slowRight(d) {
		return api.Disk{}, 1
	}
	var files []api.File
	for i, f := range d.Files {
		kept := 0
		for i < len(keep) && kept < keep[i] && kept < len(f.Tail) {
			kept++
		}
		files = append(files, file(f.Name, f.Synced+f.Tail[:kept], ""))
	}
	return plate(d.Room, -1, files...), 0
}

func same(a, b api.Disk) bool {
	equal := slices.Equal(a.Files, b.Files)
	a.Files, b.Files = nil, nil
	return equal && reflect.DeepEqual(a, b)
}

// brief tells a thing in so many bytes that they can be read.
func brief(x any) string {
	s := strconv.Quote(fmt.Sprintf("%+v", x))
	if len(s) > 400 {
		return s[:400] + ".."
	}
	return s
}

// guarded answers a disk that is the same, with room behind its files that is written to, and a function that tells whether all of this is as it was.
func guarded(d api.Disk) (api.Disk, func() bool) {
	if d.Files == nil {
		return d, func() bool { return true }
	}
	all := append(slices.Clone(d.Files), file("mark", "mark", "mark"), file("mark", "mark", "mark"))
	before := slices.Clone(all)
	d.Files = all[:len(d.Files)]
	return d, func() bool { return slices.Equal(all, before) }
}

// checkKept looks at the argument of a call once behind it, and once more when the answer has been written over.
func checkKept(t *testing.T, name string, intact func() bool, answer api.Disk) {
	t.Helper()
	if !intact() {
		t.Errorf("%s: the argument is changed", name)
	}
	files := answer.Files[:cap(answer.Files)]
	for i := range files {
		files[i] = file("scribble", "scribble", "scribble")
	}
	if !intact() {
		t.Errorf("%s: the answer shares its memory with the argument", name)
	}
}

// change is a call of a function that answers a disk: what tells it, of makes it, slowly tells what it should come to.
type change struct {
	what   string
	of     func(d api.Disk) (api.Disk, api.Errno)
	slowly func(d api.Disk) (api.Disk, api.Errno)
}

func write(name, bytes string) change {
	return change{"Write of " + brief(name) + " " + brief(bytes),
		func(d api.Disk) (api.Disk, api.Errno) { return disk.Write(d, name, bytes) },
		func(d api.Disk) (api.Disk, api.Errno) { return slowWrite(d, name, bytes) }}
}

func sync(name string) change {
	return change{"Sync of " + brief(name),
		func(d api.Disk) (api.Disk, api.Errno) { return disk.Sync(d, name) },
		func(d api.Disk) (api.Disk, api.Errno) { return slowSync(d, name) }}
}

func rename(from, to string) change {
	return change{"Rename of " + brief(from) + " to " + brief(to),
		func(d api.Disk) (api.Disk, api.Errno) { return disk.Rename(d, from, to) },
		func(d api.Disk) (api.Disk, api.Errno) { return slowRename(d, from, to) }}
}

func remove(name string) change {
	return change{"Remove of " + brief(name),
		func(d api.Disk) (api.Disk, api.Errno) { return disk.Remove(d, name) },
		func(d api.Disk) (api.Disk, api.Errno) { return slowRemove(d, name) }}
}

func cut(left int) change {
	return change{"Cut to " + strconv.Itoa(left),
		func(d api.Disk) (api.Disk, api.Errno) { return disk.Cut(d, left) },
		func(d api.Disk) (api.Disk, api.Errno) { return slowCut(d, left) }}
}

func crash(keep ...int) change {
	return change{"Crash with " + brief(keep),
		func(d api.Disk) (api.Disk, api.Errno) {
			all := append(slices.Clone(keep), 77, 77)
			before := slices.Clone(all)
			out, e := disk.Crash(d, all[:len(keep)])
			if !slices.Equal(all, before) {
				panic("Crash changes its numbers")
			}
			return out, e
		},
		func(d api.Disk) (api.Disk, api.Errno) { return slowCrash(d, keep) }}
}

// check holds the answer of a call against the one that is wanted, and against the second reckoning.
func check(t *testing.T, d api.Disk, c change, want api.Disk, wantErr api.Errno) {
	t.Helper()
	if slow, e := c.slowly(d); !same(slow, want) || e != wantErr {
		t.Errorf("%s on %s should answer %s, %d, and by the second reckoning %s, %d", c.what, brief(d), brief(want), wantErr, brief(slow), e)
	}
	a, intact := guarded(d)
	got, e := c.of(a)
	if !same(got, want) || e != wantErr {
		t.Errorf("%s on %s answers %s, %d, not %s, %d", c.what, brief(d), brief(got), e, brief(want), wantErr)
	}
	checkKept(t, c.what, intact, got)
}

// checkRefused holds a call against an error beside which there is no disk.
func checkRefused(t *testing.T, d api.Disk, c change, wantErr api.Errno) {
	t.Helper()
	check(t, d, c, api.Disk{}, wantErr)
}

func checkRight(t *testing.T, d api.Disk, want bool) {
	t.Helper()
	if slow := slowRight(d); slow != want {
		t.Errorf("Right of %s should be %t, and is %t by the second reckoning", brief(d), want, slow)
	}
	a, intact := guarded(d)
	if got := disk.Right(a); got != want {
		t.Errorf("Right of %s is %t", brief(d), got)
	}
	checkKept(t, "Right", intact, api.Disk{})
}

func checkRead(t *testing.T, d api.Disk, name, want string, wantErr api.Errno) {
	t.Helper()
	if slow, e := slowRead(d, name); slow != want || e != wantErr {
		t.Errorf("Read of %s from %s should answer %s, %d, and by the second reckoning %s, %d", brief(name), brief(d), brief(want), wantErr, brief(slow), e)
	}
	a, intact := guarded(d)
	if got, e := disk.Read(a, name); got != want || e != wantErr {
		t.Errorf("Read of %s from %s answers %s, %d, not %s, %d", brief(name), brief(d), brief(got), e, brief(want), wantErr)
	}
	checkKept(t, "Read", intact, api.Disk{})
}

// checkDefined holds all that the package answers of a disk against the chapter's words.
func checkDefined(t *testing.T, d api.Disk, names, texts []string, numbers []int) {
	t.Helper()
	checkRight(t, d, slowRight(d))
	changes := []change{crash(numbers...)}
	for _, left := range numbers {
		changes = append(changes, cut(left))
	}
	for _, name := range names {
		want, e := slowRead(d, name)
		checkRead(t, d, name, want, e)
		changes = append(changes, sync(name), remove(name))
		for _, bytes := range texts {
			changes = append(changes, write(name, bytes))
		}
		for _, to := range names {
			changes = append(changes, rename(name, to))
		}
	}
	for _, c := range changes {
		want, e := c.slowly(d)
		check(t, d, c, want, e)
	}
}
