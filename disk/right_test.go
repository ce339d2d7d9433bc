package disk_test

import (
	"math"
	"slices"
	"strings"
	"testing"

	"hornbook/api"
	"hornbook/disk"
)

// goodByte tells whether a byte may stand in a file name.
func goodByte(b byte) bool {
	return strings.IndexByte("abcdefghijklmnopqrstuvwxyz0123456789.", b) >= 0
}

// spoiled are names that are none: too long, too short, or with a byte that may not be.
func spoiled() []string {
	return []string{"", text(17), text(1000), "A", "a b", "a/b", "a\x00", "-", "é", "a_", "\xff", "log\n"}
}

// proper are names of every kind.
func proper() []string {
	return []string{"a", "z", "0", "9", ".", "..", "log", "log.new", text(16), "................", "0123456789abcdef"}
}

// spoil are disks that are not valid, each for one reason.
func spoil() []api.Disk {
	return []api.Disk{
		plate(-1, -1),
		plate(roomiest+1, -1),
		plate(10, -2),
		plate(10, latest+1),
		plate(10, -1, file("A", "", "")),
		plate(10, -1, file("b", "", ""), file("a", "", "")),
		plate(10, -1, file("a", text(6), text(5))),
		plate(100, -1, crowd(9)...),
	}
}

// TestRoom: P13.1: a Room is from 0 to 2^20.
func TestRoom(t *testing.T) {
	for _, room := range []int{0, 1, 10, roomiest - 1, roomiest} {
		checkRight(t, plate(room, -1), true)
		checkRight(t, down(plate(room, 0, file("a", "", ""))), true)
	}
	for _, room := range []int{-1, -2, math.MinInt, roomiest + 1, roomiest * 2, math.MaxInt} {
		checkRight(t, plate(room, -1), false)
		checkRight(t, down(plate(room, 0, file("a", "", ""))), false)
	}
}

// TestLeft: P13.1: Left is from -1 to 2^30.
func TestLeft(t *testing.T) {
	for _, left := range []int{-1, 0, 1, 2, latest - 1, latest} {
		checkRight(t, plate(10, left), true)
		checkRight(t, down(plate(10, left)), true)
	}
	for _, left := range []int{-2, -3, math.MinInt, latest + 1, math.MaxInt} {
		checkRight(t, plate(10, left), false)
		checkRight(t, down(plate(10, left)), false)
	}
}

// TestNumberOfFiles: P13.1: there are up to 8 files.
func TestNumberOfFiles(t *testing.T) {
	for n := range 12 {
		var l []api.File
		for i := range n {
			l = append(l, file("f"+string(rune('a'+i)), "", ""))
		}
		checkRight(t, plate(0, -1, l...), n <= 8)
		checkRight(t, plate(100, 3, l...), n <= 8)
	}
	checkRight(t, api.Disk{Files: []api.File{}}, true)
	checkRight(t, api.Disk{}, true)
}

// TestNames: P13.1: a name has 1 to 16 bytes, and each of them may stand there; of every file.
func TestNames(t *testing.T) {
	for n := range 40 {
		checkRight(t, plate(10, -1, file(text(n), "", "")), n >= 1 && n <= 16)
		checkRight(t, plate(10, -1, file("a", "", ""), file("zz"+text(n), "", "")), n <= 14)
	}
	for i := range 256 {
		b := string([]byte{byte(i)})
		for _, name := range []string{b, "x" + b, b + "x", "x" + b + "x", text(15) + b, b + text(15), text(7) + b + text(8)} {
			checkRight(t, plate(10, -1, file(name, "a", "b")), goodByte(byte(i)))
		}
	}
	for _, name := range proper() {
		checkRight(t, plate(10, -1, file(name, "a", "b")), true)
	}
	for _, name := range spoiled() {
		checkRight(t, plate(10, -1, file(name, "a", "b")), false)
		l := []api.File{file("a", "", ""), file("b", "", ""), file(name, "", "")}
		slices.SortFunc(l, func(a, b api.File) int { return strings.Compare(a.Name, b.Name) })
		checkRight(t, plate(10, -1, l...), false)
	}
}

// TestOrder: P13.1: names rise, byte by byte.
func TestOrder(t *testing.T) {
	for _, c := range []struct {
		names string
		want  bool
	}{
		{"a", true}, {"a b", true}, {"a aa", true}, {"a.b aa", true}, {". 0", true}, {"9 a", true}, {"a b c d e f g h", true},
		{"a a0 a1 b", true}, {"10 9", true}, {text(15) + " " + text(16), true},
		{"a a", false}, {"b a", false}, {"aa a", false}, {"aa a.b", false}, {"0 .", false}, {"a 9", false},
		{"a b b", false}, {"b b c", false}, {"a b a", false}, {"a c b", false}, {"b a c", false}, {"a b c d e f h g", false},
		{"a b c d e f g g", false}, {"9 10", false}, {text(16) + " " + text(15), false}, {text(16) + " " + text(16), false},
	} {
		var l []api.File
		for _, name := range strings.Fields(c.names) {
			l = append(l, file(name, "", ""))
		}
		checkRight(t, plate(10, -1, l...), c.want)
		checkRight(t, down(plate(10, -1, l...)), c.want)
	}
}

// TestFullness: P13.1: all bytes of all files, synced or not, are at most Room.
func TestFullness(t *testing.T) {
	for _, room := range []int{0, 1, 2, 10, 1000, roomiest} {
		for _, n := range []int{room - 1, room, room + 1} {
			if n < 0 {
				continue
			}
			for _, part := range []int{0, n / 2, n} {
				a, b := text(part), text(n-part)
				checkRight(t, plate(room, -1, file("a", a, b)), n <= room)
				checkRight(t, plate(room, -1, file("a", a, ""), file("b", b, "")), n <= room)
				checkRight(t, plate(room, -1, file("a", "", a), file("b", "", b)), n <= room)
				checkRight(t, plate(room, -1, file("a", "", a), file("b", "", ""), file("c", b, "")), n <= room)
				checkRight(t, down(plate(room, -1, file("a", "", ""), file("b", a, b))), n <= room)
			}
		}
	}
	for _, room := range []int{7, 8, 9} {
		checkRight(t, plate(room, -1, crowd(8)...), room >= 8)
	}
	checkRight(t, plate(3, -1, file("a", "\x00\xff", "é")), false)
	checkRight(t, plate(4, -1, file("a", "\x00\xff", "é")), true)
}

// TestSpoiled: every function refuses a disk that is not valid, ahead of anything else.
func TestSpoiled(t *testing.T) {
	for _, d := range spoil() {
		for _, d := range []api.Disk{d, down(d)} {
			checkRight(t, d, false)
			for _, c := range []change{
				write("a", ""), write("a", "x"), write("a", text(200)), write("A", ""), sync("a"), sync("b"), sync("none"), sync(""),
				rename("a", "c"), rename("a", "a"), rename("none", "a"), rename("a", ""), remove("a"), remove("none"), remove("A"),
				cut(-1), cut(0), cut(5), cut(-2), cut(latest + 1), crash(), crash(0), crash(1, 2, 3), crash(-1),
			} {
				checkRefused(t, d, c, api.ErrArg)
			}
			for _, name := range []string{"a", "b", "none", "", "A"} {
				checkRead(t, d, name, "", api.ErrArg)
			}
		}
	}
}

// TestSpoiledNames: a name that is none is refused by each call, wherever it is passed, ahead of whether the disk is Down.
func TestSpoiledNames(t *testing.T) {
	full := plate(8, 0, crowd(8)...)
	for _, d := range []api.Disk{plate(10, -1), plate(10, 0), plate(10, 1, file("a", "x", "")), plate(10, 0, file("a", "x", "y")), full} {
		for _, d := range []api.Disk{d, down(d)} {
			for _, name := range spoiled() {
				checkRefused(t, d, write(name, ""), api.ErrArg)
				checkRefused(t, d, write(name, "x"), api.ErrArg)
				checkRefused(t, d, write(name, text(100)), api.ErrArg)
				checkRefused(t, d, sync(name), api.ErrArg)
				checkRefused(t, d, rename(name, "a"), api.ErrArg)
				checkRefused(t, d, rename("a", name), api.ErrArg)
				checkRefused(t, d, rename("none", name), api.ErrArg)
				checkRefused(t, d, rename(name, name), api.ErrArg)
				checkRefused(t, d, remove(name), api.ErrArg)
				checkRead(t, d, name, "", api.ErrArg)
			}
		}
	}
}

// TestEachByte: every byte that may stand in a name may be passed in one, and no other.
func TestEachByte(t *testing.T) {
	for i := range 256 {
		b := string([]byte{byte(i)})
		for _, name := range []string{b, text(15) + b, b + text(15), "x" + b + "y"} {
			if !goodByte(byte(i)) {
				checkRefused(t, plate(10, -1), write(name, "x"), api.ErrArg)
				checkRefused(t, plate(10, -1), remove(name), api.ErrArg)
				checkRead(t, plate(10, -1), name, "", api.ErrArg)
				continue
			}
			d := plate(10, -1, file(name, "", "x"))
			check(t, plate(10, -1), write(name, "x"), d, api.OK)
			check(t, d, sync(name), plate(10, -1, file(name, "x", "")), api.OK)
			check(t, plate(10, -1, file(name, "x", "")), rename(name, "other"), plate(10, -1, file("other", "x", "")), api.OK)
			check(t, plate(10, -1, file("other", "x", "")), rename("other", name), plate(10, -1, file(name, "x", "")), api.OK)
			check(t, d, remove(name), plate(10, -1), api.OK)
			checkRead(t, d, name, "x", api.OK)
		}
	}
}

// TestDown: a disk that is Down refuses each call, Read and Cut, ahead of their own errors, with no disk beside the error.
func TestDown(t *testing.T) {
	full := plate(8, -1, crowd(8)...)
	for _, d := range []api.Disk{plate(10, -1), plate(10, 0, file("a", "xy", "z")), plate(10, 5, file("a", "", "")), full} {
		d := down(d)
		for _, c := range []change{
			write("a", ""), write("a", "x"), write("a", text(11)), write("new", ""), sync("a"), sync("none"),
			rename("a", "b"), rename("a", "a"), rename("none", "a"), rename("f1", "f2"), remove("a"), remove("none"), remove("f8"),
			cut(-1), cut(0), cut(1), cut(latest),
		} {
			checkRefused(t, d, c, api.ErrDown)
		}
		for _, left := range []int{-2, latest + 1, math.MinInt, math.MaxInt} {
			checkRefused(t, d, cut(left), api.ErrArg)
		}
		for _, name := range []string{"a", "none", "f1"} {
			checkRead(t, d, name, "", api.ErrDown)
		}
		want := plate(d.Room, -1, d.Files...)
		if len(d.Files) == 1 {
			want.Files = []api.File{file("a", d.Files[0].Synced, "")}
		}
		check(t, d, crash(), want, api.OK)
	}
}

// TestExamples: the chapter's table.
func TestExamples(t *testing.T) {
	d := plate(10, -1)
	step := func(c change, want api.Disk, wantErr api.Errno) {
		t.Helper()
		check(t, d, c, want, wantErr)
		if next, e := c.of(d); e == api.OK {
			d = next
		}
	}
	step(write("a", "xy"), plate(10, -1, file("a", "", "xy")), api.OK)
	step(sync("a"), plate(10, -1, file("a", "xy", "")), api.OK)
	step(write("a", "z"), plate(10, -1, file("a", "xy", "z")), api.OK)
	step(rename("a", "b"), api.Disk{}, api.ErrDirty)
	check(t, d, crash(1), plate(10, -1, file("a", "xyz", "")), api.OK)
	check(t, d, crash(0), plate(10, -1, file("a", "xy", "")), api.OK)

	checkRefused(t, plate(10, -1), write("a", text(11)), api.ErrFull)

	d = plate(10, -1)
	step(cut(1), plate(10, 1), api.OK)
	step(write("a", "x"), plate(10, 0, file("a", "", "x")), api.OK)
	step(sync("a"), down(plate(10, 0, file("a", "", "x"))), api.ErrDown)
}

// TestValid: P1: what a call answers is a valid disk again, and a disk that the caller has stays with him.
func TestValid(t *testing.T) {
	d := plate(20, 3, file("a", "xy", "z"), file("c", "", "w"), file("e", "v", ""))
	for _, c := range []change{
		write("a", "1"), write("b", ""), write("d", text(13)), sync("a"), sync("e"), rename("e", "d"), rename("e", "a"), rename("e", "e"),
		remove("c"), cut(7), crash(1, 1, 1), crash(),
	} {
		for _, left := range []int{-1, 0, 1, latest} {
			d.Left = left
			before, _ := guarded(d)
			out, e := c.of(d)
			if !disk.Right(out) || e != api.OK && (e != api.ErrDown || left != 0) {
				t.Errorf("%s on %s answers %s, %d", c.what, brief(d), brief(out), e)
			}
			if !same(d, before) {
				t.Errorf("%s changes the disk", c.what)
			}
		}
	}
}
