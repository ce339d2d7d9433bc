package delta_test

import (
	"math/rand"
	"slices"
	"strconv"
	"strings"
	"testing"

	"hornbook/api"
	"hornbook/delta"
)

// noise is so many bytes in which nearly no 16 of them come again; another seed gives others.
func noise(seed, n int) string {
	r := rand.New(rand.NewSource(int64(seed)))
	b := make([]byte, n)
	for i := range b {
		b[i] = byte(r.Intn(256))
	}
	return string(b)
}

// checkMake: P7.2 and the first half of P7.4, for two strings that are not too long; it answers the delta.
func checkMake(t *testing.T, name, old, now string) []api.Op {
	t.Helper()
	d, e := delta.Make(old, now)
	tell := func(what string) {
		t.Helper()
		t.Errorf("%s: Make of %s and %s answers %s, %d: %s", name, brief(old), brief(now), short(d), e, what)
	}
	if e != api.OK {
		tell("an error")
		return nil
	}
	if !slowRight(d) {
		tell("not valid")
		return nil
	}
	if got, e := slowApply(old, d, len(now)); got != now || e != api.OK {
		tell("it makes another string")
	}
	if got, e := delta.Apply(old, d, len(now)); got != now || e != api.OK {
		tell("Apply makes another string of it")
	}
	for i := range d {
		if i > 0 && d[i-1].Len == 0 && d[i].Len == 0 {
			tell("two inserts are adjacent")
		}
	}
	size := slowSize(d)
	if size > len(now)+8 || now == "" && size > 0 || delta.Size(d) != size {
		tell("its size is " + strconv.Itoa(size))
	}
	if len(now) >= 16 && strings.Contains(old, now) && (len(d) != 1 || d[0].Len != len(now)) {
		tell("not a single copy")
	}
	if again, _ := delta.Make(old, now); !slices.Equal(again, d) {
		tell("another delta at the next call")
	}
	return d
}

// checkSmall: a delta that leans on the old string is far below the new one.
func checkSmall(t *testing.T, name, old, now string, most int) {
	t.Helper()
	d := checkMake(t, name, old, now)
	if size := slowSize(d); size > most {
		t.Errorf("%s: Make of %s and %s answers %s, whose size is %d, above %d", name, brief(old), brief(now), short(d), size, most)
	}
}

func checkTooLong(t *testing.T, name, old, now string) {
	t.Helper()
	if d, e := delta.Make(old, now); len(d) != 0 || e != api.ErrLong {
		t.Errorf("%s: Make answers %s, %d", name, short(d), e)
	}
}

// TestMakeTooLong: P7.2: either string may have 131072 bytes and no more.
func TestMakeTooLong(t *testing.T) {
	full, more := noise(1, 131072), noise(1, 131073)
	for _, s := range []string{"", "a", text(16), full} {
		checkTooLong(t, "old", more, s)
		checkTooLong(t, "new", s, more)
		checkMake(t, "old that is full", full, s)
		checkMake(t, "new that is full", s, full)
	}
	checkTooLong(t, "both", more, more)
	checkTooLong(t, "both, of one byte", text(131073), text(131073))
	checkTooLong(t, "far too long", text(1<<22), "x")
	checkMake(t, "another that is full", noise(2, 131072), full)
	checkMake(t, "all but the last", full, full[:131071]+"\x00")
	checkMake(t, "all but the first", full, "\x00"+full[1:])
}

// TestMakeInserts: P7.2 where there is nothing to copy: the delta is told by the promises alone.
func TestMakeInserts(t *testing.T) {
	for _, x := range []struct {
		name, old, now string
		want           []api.Op
	}{
		{"the chapter's", "", "ab", ops(ins("ab"))},
		{"nothing of nothing", "", "", nil},
		{"nothing", "abc", "", nil},
		{"nothing of much", text(131072), "", nil},
		{"one byte", "abc", "x", ops(ins("x"))},
		{"nothing in common", strings.Repeat("a", 1000), strings.Repeat("b", 1000), ops(ins(strings.Repeat("b", 1000)))},
		{"of nothing", "", text(131072), ops(ins(text(131072)))},
	} {
		if d := checkMake(t, x.name, x.old, x.now); !slices.Equal(d, x.want) {
			t.Errorf("%s: Make answers %s, not %s", x.name, short(d), short(x.want))
		}
	}
}

// TestMakeWhole: P7.2: what stands in the old string as a whole is one copy, from 16 bytes on.
func TestMakeWhole(t *testing.T) {
	old := noise(3, 2000)
	for _, n := range []int{1, 15, 16, 17, 31, 32, 33, 1000, 1999, 2000} {
		for _, from := range []int{0, 1, 2000 / 3, 2000 - n - 1, 2000 - n} {
			if from >= 0 && from+n <= 2000 {
				checkMake(t, "part", old, old[from:from+n])
			}
		}
	}
	full := noise(4, 131072)
	for _, now := range []string{full, full[1:], full[:131071], full[65536:], full[65000:65016], full[131056:]} {
		checkSmall(t, "part of what is full", full, now, 8)
	}
	// The 16 bytes that begin the new string stand in the old one before, with others behind them.
	a := noise(5, 16)
	for _, tail := range []string{"x", "xy", noise(6, 15), noise(6, 16), noise(6, 17), noise(6, 500)} {
		checkSmall(t, "at a later place", a+"?"+a+"!"+a+tail, a+tail, 8)
		checkSmall(t, "at a later place, with more behind", strings.Repeat(a, 100)+tail+a+"..", a+tail, 8)
		checkSmall(t, "pieces first", tail+a+"?"+tail+tail+a+tail+a, tail+a+tail, 40)
	}
	checkMake(t, "the end of what repeats itself", text(1000)+"y", text(999)+"y")
	checkMake(t, "the end of what repeats itself", text(131071)+"y", text(15)+"y")
	checkMake(t, "the end of what repeats itself", text(131071)+"y", text(65536)+"y")
}

// TestMakeEveryPart: P7.2 for each part of some strings in which much comes again.
func TestMakeEveryPart(t *testing.T) {
	for _, old := range []string{text(60), strings.Repeat("ab", 30), strings.Repeat("aab", 20), strings.Repeat(text(16)+"y", 4), noise(7, 60), text(30) + "y" + text(30)} {
		for from := range len(old) {
			for end := from; end <= len(old); end++ {
				checkMake(t, "part", old, old[from:end])
				checkMake(t, "part and more", old, old[from:end]+"z")
				checkMake(t, "more and part", old, "z"+old[from:end])
			}
		}
	}
}

// TestMakeOneByte: P7.2 for strings of one byte again and again.
func TestMakeOneByte(t *testing.T) {
	lengths := []int{0, 1, 2, 14, 15, 16, 17, 18, 31, 32, 33, 47, 48, 49, 1000, 131071, 131072}
	for _, n := range lengths {
		for _, m := range lengths {
			checkMake(t, "one byte", text(n), text(m))
			checkMake(t, "another byte", text(n), strings.Repeat("y", m))
		}
	}
	checkSmall(t, "longer by one", text(1000), text(1001), 8+8+15)
}

// TestMakePieces: P7.2 for strings that share long pieces, in another order and more than once; there the delta is small.
func TestMakePieces(t *testing.T) {
	a, b, c := noise(8, 500), noise(9, 700), noise(10, 900)
	old := a + b + c
	checkSmall(t, "another order", old, c+a+b, 8*4)
	checkSmall(t, "backwards", old, c+b+a, 8*4)
	checkSmall(t, "more than once", old, a+a+c+a+b+b, 8*8)
	checkSmall(t, "one is gone", old, a+c, 8*2)
	checkSmall(t, "a change within", old, a+b[:300]+"?"+b[301:]+c, 8*3+1)
	checkSmall(t, "something behind", old, old+"new", 8*2+3)
	checkSmall(t, "something ahead", old, "new"+old, 8*2+3)
	checkSmall(t, "something everywhere", old, "1"+a+"2"+b+"3"+c+"4", 8*7+4)
	checkSmall(t, "pieces of a block", old, a[:16]+"?"+b[:16]+"?"+c[:16], 8*5+2)
	checkSmall(t, "the last block", old, "?"+c[900-16:], 8*2+1)
	checkSmall(t, "the last block, and more", old, c[900-16:]+"?", 8*2+1)
	checkMake(t, "pieces too short", old, a[:15]+"?"+b[:15]+"?"+c[:15])

	full := noise(11, 131072)
	checkSmall(t, "halves of what is full", full, full[65536:]+full[:65536], 8*2)
	checkSmall(t, "a change in what is full", full, full[:100000]+"changed"+full[100007:], 8*3+7)
}

// chopped is a new string of so many pieces of an old one, which begin at places far from one another, with a text ahead of each.
func chopped(old string, pieces, size int, between string) string {
	var b strings.Builder
	for i := range pieces {
		from := i * 7919 % (len(old) - size)
		b.WriteString(between + old[from:from+size])
	}
	return b.String()
}

// TestMakeManyPieces: P7.2 and P7.4 where the strings share more pieces than a delta has operations for.
func TestMakeManyPieces(t *testing.T) {
	// No copy goes on into what is between the pieces, so that their number is known.
	old := strings.NewReplacer("x", "a", "y", "b").Replace(noise(12, 20000))
	for _, pieces := range []int{1, 2, 665, 666, 667, 998, 999, 1000, 1001, 1332, 1333, 1334, 1999, 2000, 2001, 4000, 7710} {
		for _, between := range []string{"", "x"} {
			now := chopped(old, pieces, 16, between)
			name := strconv.Itoa(pieces) + " pieces"
			for _, now := range []string{now, now + "y", "y" + now, now[len(between):]} {
				d := checkMake(t, name, old, now)
				if s, e := delta.Bytes(d); e != api.OK || s == "" {
					t.Errorf("%s: Bytes of what Make answers is an error, %d", name, e)
				}
				if pieces <= 999 && slowSize(d) > 8*(2*pieces+2)+len(between)*pieces+1 {
					t.Errorf("%s: not all of them are copied: the size is %d", name, slowSize(d))
				}
			}
		}
	}
	checkMake(t, "8192 pieces", text(16), text(131072))
	old = noise(13, 131072)
	checkMake(t, "full of short pieces", old, chopped(old, 8192, 16, ""))
	checkMake(t, "full of longer pieces", old, chopped(old, 3971, 32, "?"))
}

// edited is a string with some changes of all kinds.
func edited(r *rand.Rand, s string) string {
	for range r.Intn(6) {
		from := r.Intn(len(s) + 1)
		end := from + r.Intn(len(s)-from+1)
		switch r.Intn(4) {
		case 0:
			s = s[:from] + s[end:]
		case 1:
			s = s[:from] + noise(r.Intn(1000), r.Intn(20)) + s[from:]
		case 2:
			s = s[end:] + s[from:end] + s[:from]
		case 3:
			s = s + s[from:end]
		}
		s = s[:min(len(s), 131072)]
	}
	return s
}

// someText has bytes of a few kinds, so that in some strings much comes again, and in others nothing.
func someText(r *rand.Rand, most int) string {
	b := make([]byte, r.Intn(most))
	kinds := 1 << r.Intn(9)
	for i := range b {
		b[i] = byte(r.Intn(kinds))
	}
	return string(b)
}

// TestMakeEdited: P7.2 and P7.4 for many strings and what comes of them.
func TestMakeEdited(t *testing.T) {
	r := rand.New(rand.NewSource(1))
	for range 1500 {
		old := someText(r, 2000)
		checkMake(t, "edited", old, edited(r, old))
		checkMake(t, "another", old, someText(r, 2000))
		checkMake(t, "around the block", old[:min(len(old), r.Intn(40))], edited(r, old[:min(len(old), r.Intn(40))]))
	}
}
