package disk_test

import (
	"math"
	"testing"

	"hornbook/api"
)

// TestWrite: P13.1: bytes go behind the Tail, in a file that there is or in a new one.
func TestWrite(t *testing.T) {
	b := plate(10, -1, file("b", "xy", "z"))
	check(t, b, write("b", "vw"), plate(10, -1, file("b", "xy", "zvw")), api.OK)
	check(t, b, write("b", ""), b, api.OK)
	check(t, b, write("a", "v"), plate(10, -1, file("a", "", "v"), file("b", "xy", "z")), api.OK)
	check(t, b, write("c", "v"), plate(10, -1, file("b", "xy", "z"), file("c", "", "v")), api.OK)
	check(t, b, write("c", ""), plate(10, -1, file("b", "xy", "z"), file("c", "", "")), api.OK)
	check(t, plate(10, -1), write("a", "\x00\xff\n"), plate(10, -1, file("a", "", "\x00\xff\n")), api.OK)
	check(t, plate(10, -1), write("a", ""), plate(10, -1, file("a", "", "")), api.OK)
	check(t, plate(0, -1), write("a", ""), plate(0, -1, file("a", "", "")), api.OK)
	between := plate(10, -1, file("a", "1", "2"), file("c", "3", "4"))
	check(t, between, write("b", "5"), plate(10, -1, file("a", "1", "2"), file("b", "", "5"), file("c", "3", "4")), api.OK)
	check(t, between, write("aa", "5"), plate(10, -1, file("a", "1", "2"), file("aa", "", "5"), file("c", "3", "4")), api.OK)
	check(t, between, write(".", "5"), plate(10, -1, file(".", "", "5"), file("a", "1", "2"), file("c", "3", "4")), api.OK)
	check(t, between, write("a", "5"), plate(10, -1, file("a", "1", "25"), file("c", "3", "4")), api.OK)
	check(t, between, write("c", "5"), plate(10, -1, file("a", "1", "2"), file("c", "3", "45")), api.OK)
	check(t, plate(10, -1, file("a", "x", "")), write("a", "y"), plate(10, -1, file("a", "x", "y")), api.OK)
}

// TestWriteFiles: P13.1: a ninth file is refused, whatever would be in it, and the eight that there are can be written to.
func TestWriteFiles(t *testing.T) {
	full := plate(100, -1, crowd(8)...)
	for _, name := range []string{"new", "a", "f11", "f9", "f0", "."} {
		for _, bytes := range []string{"", "x", text(92), text(93)} {
			checkRefused(t, full, write(name, bytes), api.ErrFull)
		}
	}
	for i, f := range full.Files {
		want := plate(100, -1, crowd(8)...)
		want.Files[i].Tail = "xy"
		check(t, full, write(f.Name, "xy"), want, api.OK)
		check(t, full, write(f.Name, ""), full, api.OK)
		checkRefused(t, full, write(f.Name, text(93)), api.ErrFull)
	}
	seven := plate(100, -1, crowd(7)...)
	check(t, seven, write("f8", "8"), plate(100, -1, append(crowd(7), file("f8", "", "8"))...), api.OK)
	check(t, seven, write("f", ""), plate(100, -1, append([]api.File{file("f", "", "")}, crowd(7)...)...), api.OK)
	checkRefused(t, plate(8, 0, crowd(8)...), write("new", ""), api.ErrFull)
	checkRefused(t, plate(8, 1, crowd(8)...), write("new", "x"), api.ErrFull)
}

// TestWriteRoom: P13.1: all files together have at most Room bytes, what is synced and what is not.
func TestWriteRoom(t *testing.T) {
	d := plate(10, -1, file("a", "12", "3"), file("c", "4", "56"))
	check(t, d, write("a", text(3)), plate(10, -1, file("a", "12", "3xxx"), file("c", "4", "56")), api.OK)
	check(t, d, write("a", text(4)), plate(10, -1, file("a", "12", "3xxxx"), file("c", "4", "56")), api.OK)
	checkRefused(t, d, write("a", text(5)), api.ErrFull)
	check(t, d, write("b", text(4)), plate(10, -1, file("a", "12", "3"), file("b", "", text(4)), file("c", "4", "56")), api.OK)
	checkRefused(t, d, write("b", text(5)), api.ErrFull)
	for _, n := range []int{6, 10, 11, 100, roomiest, roomiest * 4} {
		checkRefused(t, d, write("c", text(n)), api.ErrFull)
	}
	full := plate(10, -1, file("a", text(10), ""))
	check(t, full, write("a", ""), full, api.OK)
	check(t, full, write("b", ""), plate(10, -1, file("a", text(10), ""), file("b", "", "")), api.OK)
	checkRefused(t, full, write("a", "x"), api.ErrFull)
	checkRefused(t, full, write("b", "x"), api.ErrFull)
	checkRefused(t, plate(10, 0, file("a", "", text(10))), write("a", "x"), api.ErrFull)
	checkRefused(t, plate(0, -1), write("a", "x"), api.ErrFull)
	check(t, plate(roomiest, -1), write("a", text(roomiest)), plate(roomiest, -1, file("a", "", text(roomiest))), api.OK)
	checkRefused(t, plate(roomiest, -1), write("a", text(roomiest+1)), api.ErrFull)
	check(t, plate(roomiest, -1, file("a", "x", "")), write("a", text(roomiest-1)), plate(roomiest, -1, file("a", "x", text(roomiest-1))), api.OK)
	checkRefused(t, plate(roomiest, -1, file("a", "x", "")), write("a", text(roomiest)), api.ErrFull)
}

// TestWriteDown: P13.1: if the power fails, the bytes are there as well, in a new file too.
func TestWriteDown(t *testing.T) {
	d := plate(10, 0, file("b", "xy", "z"))
	check(t, d, write("b", "vw"), down(plate(10, 0, file("b", "xy", "zvw"))), api.ErrDown)
	check(t, d, write("b", ""), down(d), api.ErrDown)
	check(t, d, write("a", "v"), down(plate(10, 0, file("a", "", "v"), file("b", "xy", "z"))), api.ErrDown)
	check(t, d, write("c", ""), down(plate(10, 0, file("b", "xy", "z"), file("c", "", ""))), api.ErrDown)
	check(t, plate(3, 0), write("c", text(3)), down(plate(3, 0, file("c", "", text(3)))), api.ErrDown)
	checkRefused(t, plate(3, 0), write("c", text(4)), api.ErrFull)
}

// TestSync: P13.2: the contents are what is synced, of this file alone.
func TestSync(t *testing.T) {
	d := plate(10, -1, file("a", "1", "2"), file("b", "", "34"), file("c", "5", ""), file("d", "", ""))
	with := func(at int, f api.File) api.Disk {
		out, _ := guarded(d)
		out.Files[at] = f
		return out
	}
	check(t, d, sync("a"), with(0, file("a", "12", "")), api.OK)
	check(t, d, sync("b"), with(1, file("b", "34", "")), api.OK)
	check(t, d, sync("c"), d, api.OK)
	check(t, d, sync("d"), d, api.OK)
	for _, name := range []string{"e", ".", "aa", "a.", "ab", text(16)} {
		checkRefused(t, d, sync(name), api.ErrKey)
	}
	checkRefused(t, plate(10, -1), sync("a"), api.ErrKey)
	checkRefused(t, plate(10, 0), sync("a"), api.ErrKey)
	full := plate(roomiest, 1, file("a", text(roomiest/2), text(roomiest/2)))
	check(t, full, sync("a"), plate(roomiest, 0, file("a", text(roomiest), "")), api.OK)
}

// TestSyncDown: P13.2: if the power fails, nothing changes.
func TestSyncDown(t *testing.T) {
	d := plate(10, 0, file("a", "1", "2"), file("b", "", "34"), file("c", "5", ""))
	for _, name := range []string{"a", "b", "c"} {
		check(t, d, sync(name), down(d), api.ErrDown)
	}
	checkRefused(t, d, sync("d"), api.ErrKey)
}

// TestRename: P13.3: a file gets a name, and goes where that stands in the order; a different file of that name is gone.
func TestRename(t *testing.T) {
	b, d, f, h := file("b", "1", ""), file("d", "2", ""), file("f", "3", "4"), file("h", "", "")
	all := plate(10, -1, b, d, f, h)
	as := func(name string, f api.File) api.File {
		f.Name = name
		return f
	}
	for _, c := range []struct {
		from, to string
		want     []api.File
	}{
		{"b", "b", []api.File{b, d, f, h}},
		{"h", "h", []api.File{b, d, f, h}},
		{"b", "d", []api.File{as("d", b), f, h}},
		{"d", "b", []api.File{as("b", d), f, h}},
		{"b", "f", []api.File{d, as("f", b), h}},
		{"b", "h", []api.File{d, f, as("h", b)}},
		{"h", "b", []api.File{as("b", h), d, f}},
		{"h", "f", []api.File{b, d, as("f", h)}},
		{"b", "a", []api.File{as("a", b), d, f, h}},
		{"d", "a", []api.File{as("a", d), b, f, h}},
		{"h", "a", []api.File{as("a", h), b, d, f}},
		{"b", "c", []api.File{as("c", b), d, f, h}},
		{"b", "e", []api.File{d, as("e", b), f, h}},
		{"b", "i", []api.File{d, f, h, as("i", b)}},
		{"d", "i", []api.File{b, f, h, as("i", d)}},
		{"d", "dd", []api.File{b, as("dd", d), f, h}},
		{"h", "c", []api.File{b, as("c", h), d, f}},
		{"h", "g", []api.File{b, d, f, as("g", h)}},
	} {
		check(t, all, rename(c.from, c.to), plate(10, -1, c.want...), api.OK)
	}
	for _, to := range []string{"f", "a", "b", "i"} {
		checkRefused(t, all, rename("f", to), api.ErrDirty)
	}
	for _, from := range []string{"a", "c", "i", "bb"} {
		for _, to := range []string{"b", "f", "a", "c", "i"} {
			checkRefused(t, all, rename(from, to), api.ErrKey)
		}
	}
	checkRefused(t, plate(10, -1), rename("a", "a"), api.ErrKey)
	checkRefused(t, plate(10, 0), rename("a", "b"), api.ErrKey)
	check(t, plate(10, -1, b), rename("b", "c"), plate(10, -1, as("c", b)), api.OK)
	full := plate(8, -1, crowd(8)...)
	check(t, full, rename("f8", "a"), plate(8, -1, append([]api.File{file("a", "8", "")}, crowd(7)...)...), api.OK)
	check(t, full, rename("f8", "f1"), plate(8, -1, append([]api.File{file("f1", "8", "")}, crowd(7)[1:]...)...), api.OK)
}

// TestRenameDown: P13.3: if the power fails, nothing changes, not even the file of the name to.
func TestRenameDown(t *testing.T) {
	d := plate(10, 0, file("a", "1", ""), file("b", "2", ""), file("c", "3", "4"))
	for _, to := range []string{"a", "b", "c", "d", "."} {
		check(t, d, rename("a", to), down(d), api.ErrDown)
		check(t, d, rename("b", to), down(d), api.ErrDown)
		checkRefused(t, d, rename("c", to), api.ErrDirty)
		checkRefused(t, d, rename("none", to), api.ErrKey)
	}
}

// TestRemove: P13.4: a file is gone, synced or not, and its bytes with it.
func TestRemove(t *testing.T) {
	a, b, c := file("a", "1", "2"), file("b", "", "34"), file("c", "5", "")
	d := plate(5, -1, a, b, c)
	check(t, d, remove("a"), plate(5, -1, b, c), api.OK)
	check(t, d, remove("b"), plate(5, -1, a, c), api.OK)
	check(t, d, remove("c"), plate(5, -1, a, b), api.OK)
	check(t, plate(5, 1, a), remove("a"), plate(5, 0), api.OK)
	for _, name := range []string{"d", ".", "aa", "ab", text(16)} {
		checkRefused(t, d, remove(name), api.ErrKey)
	}
	checkRefused(t, plate(5, -1), remove("a"), api.ErrKey)
	checkRefused(t, plate(5, 0), remove("a"), api.ErrKey)
	full := plate(8, -1, crowd(8)...)
	check(t, full, remove("f1"), plate(8, -1, crowd(8)[1:]...), api.OK)
	check(t, full, remove("f8"), plate(8, -1, crowd(7)...), api.OK)
}

// TestRemoveDown: P13.4: if the power fails, nothing changes.
func TestRemoveDown(t *testing.T) {
	d := plate(10, 0, file("a", "1", "2"), file("b", "", "34"), file("c", "5", ""))
	for _, name := range []string{"a", "b", "c"} {
		check(t, d, remove(name), down(d), api.ErrDown)
	}
	checkRefused(t, d, remove("d"), api.ErrKey)
}

// TestLeftOfCalls: a call that takes effect takes one off Left, whatever the effect; -1 stays; a call that is refused takes nothing, with the power or at its end.
func TestLeftOfCalls(t *testing.T) {
	a, b := file("a", "1", ""), file("b", "2", "3")
	for _, c := range []struct {
		change
		want []api.File
	}{
		{write("a", ""), []api.File{a, b}},
		{write("b", "4"), []api.File{a, file("b", "2", "34")}},
		{write("c", ""), []api.File{a, b, file("c", "", "")}},
		{sync("a"), []api.File{a, b}},
		{sync("b"), []api.File{a, file("b", "23", "")}},
		{rename("a", "a"), []api.File{a, b}},
		{rename("a", "b"), []api.File{file("b", "1", "")}},
		{remove("a"), []api.File{b}},
	} {
		for left, next := range map[int]int{-1: -1, 1: 0, 2: 1, 3: 2, 1000: 999, latest: latest - 1} {
			check(t, plate(10, left, a, b), c.change, plate(10, next, c.want...), api.OK)
		}
		out, e := c.of(plate(10, 0, a, b))
		if e != api.ErrDown || !out.Down || out.Left != 0 || out.Room != 10 {
			t.Errorf("%s with a Left of 0 answers %s, %d", c.what, brief(out), e)
		}
	}
	for _, left := range []int{-1, 0, 1, latest} {
		d := plate(10, left, a, b)
		checkRefused(t, d, write("a", text(8)), api.ErrFull)
		checkRefused(t, d, sync("c"), api.ErrKey)
		checkRefused(t, d, rename("c", "a"), api.ErrKey)
		checkRefused(t, d, rename("b", "a"), api.ErrDirty)
		checkRefused(t, d, rename("b", "b"), api.ErrDirty)
		checkRefused(t, d, remove("c"), api.ErrKey)
	}
}

// TestRead: P13.5: the contents are what is synced and what is not; Read is no call, and goes on until the disk is Down.
func TestRead(t *testing.T) {
	for _, left := range []int{-1, 0, 1, latest} {
		d := plate(20, left, file("a", "12", "34"), file("b", "", ""), file("c", "\x00", ""), file("d", "", "\xff\n"))
		checkRead(t, d, "a", "1234", api.OK)
		checkRead(t, d, "b", "", api.OK)
		checkRead(t, d, "c", "\x00", api.OK)
		checkRead(t, d, "d", "\xff\n", api.OK)
		for _, name := range []string{"e", "aa", ".", text(16)} {
			checkRead(t, d, name, "", api.ErrKey)
			checkRead(t, down(d), name, "", api.ErrDown)
		}
		checkRead(t, down(d), "a", "", api.ErrDown)
		checkRead(t, down(d), "A", "", api.ErrArg)
	}
	checkRead(t, plate(20, -1), "a", "", api.ErrKey)
	checkRead(t, plate(8, -1, crowd(8)...), "f1", "1", api.OK)
	checkRead(t, plate(8, -1, crowd(8)...), "f8", "8", api.OK)
	checkRead(t, plate(roomiest, -1, file("a", text(roomiest), "")), "a", text(roomiest), api.OK)
}

// TestCut: P13.5: Left is set, to any that a disk may have, whatever it was; nothing else changes.
func TestCut(t *testing.T) {
	a, b := file("a", "1", "2"), file("b", "", "")
	for _, left := range []int{-1, 0, 1, 5, latest} {
		d := plate(10, left, a, b)
		for _, next := range []int{-1, 0, 1, 2, latest - 1, latest} {
			check(t, d, cut(next), plate(10, next, a, b), api.OK)
			checkRefused(t, down(d), cut(next), api.ErrDown)
		}
		for _, next := range []int{-2, -3, math.MinInt, latest + 1, math.MaxInt} {
			checkRefused(t, d, cut(next), api.ErrArg)
			checkRefused(t, down(d), cut(next), api.ErrArg)
		}
	}
	check(t, plate(0, -1), cut(0), plate(0, 0), api.OK)
}

// TestCrash: P13.6: of each file's Tail the first bytes last, as many as its number says; Left and Down are as at the beginning.
func TestCrash(t *testing.T) {
	files := []api.File{file("a", "", "123"), file("b", "45", "67"), file("c", "8", ""), file("d", "", "9")}
	for _, c := range []struct {
		keep       []int
		a, b, c, d string
	}{
		{nil, "", "45", "8", ""},
		{[]int{}, "", "45", "8", ""},
		{[]int{0, 0, 0, 0}, "", "45", "8", ""},
		{[]int{1}, "1", "45", "8", ""},
		{[]int{2}, "12", "45", "8", ""},
		{[]int{3}, "123", "45", "8", ""},
		{[]int{4}, "123", "45", "8", ""},
		{[]int{0, 1}, "", "456", "8", ""},
		{[]int{1, 2, 0, 1}, "1", "4567", "8", "9"},
		{[]int{2, 1, 1, 0}, "12", "456", "8", ""},
		{[]int{0, 0, 0, 1}, "", "45", "8", "9"},
		{[]int{3, 2, 0, 1}, "123", "4567", "8", "9"},
		{[]int{3, 2, 0, 1, 5, 5, 5, 5, 5, 5}, "123", "4567", "8", "9"},
		{[]int{9, 9, 9, 9}, "123", "4567", "8", "9"},
		{[]int{math.MaxInt, math.MaxInt, math.MaxInt, math.MaxInt}, "123", "4567", "8", "9"},
		{[]int{-1, -2, -3, -4}, "", "45", "8", ""},
		{[]int{math.MinInt, 1, math.MinInt, 1}, "", "456", "8", "9"},
		{[]int{-1, math.MaxInt, 1, -1}, "", "4567", "8", ""},
	} {
		want := plate(20, -1, file("a", c.a, ""), file("b", c.b, ""), file("c", c.c, ""), file("d", c.d, ""))
		for _, left := range []int{-1, 0, 1, latest} {
			check(t, plate(20, left, files...), crash(c.keep...), want, api.OK)
			check(t, down(plate(20, left, files...)), crash(c.keep...), want, api.OK)
		}
	}
	check(t, down(plate(0, 0)), crash(), plate(0, -1), api.OK)
	check(t, down(plate(5, 0)), crash(1, 2, 3), plate(5, -1), api.OK)
	check(t, down(plate(8, 0, crowd(8)...)), crash(1, 1, 1, 1, 1, 1, 1, 1, 1), plate(8, -1, crowd(8)...), api.OK)
	full := plate(roomiest, 0, file("a", "", text(roomiest)))
	check(t, down(full), crash(roomiest-1), plate(roomiest, -1, file("a", text(roomiest-1), "")), api.OK)
	check(t, down(full), crash(roomiest+1), plate(roomiest, -1, file("a", text(roomiest), "")), api.OK)
}
