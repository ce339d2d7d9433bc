package model_test

import (
	"slices"
	"strconv"
	"strings"
	"testing"

	"hornbook/api"
	"hornbook/model"
)

// TestPutCommand: P12.2 with the encodings written out; GetCommand reads them.
func TestPutCommand(t *testing.T) {
	for _, x := range []struct {
		c    api.Command
		want string
	}{
		{command(1, 1, put("", "a", "b")), "li1ei1eli0e0:1:a1:bee"},
		{command(1, 2, drop("", "x")), "li1ei2eli1e0:1:x0:ee"},
		{command(2, 1, put("", "", "")), "li2ei1eli0e0:0:0:ee"},
		{command(7, 12, put("de-CH", "a.b", "{n}"), drop("de", "hi")), "li7ei12eli0e5:de-CH3:a.b3:{n}eli1e2:de2:hi0:ee"},
		{command(top, top, dropping(entry("de", "a", "x"))), "li1073741824ei1073741824eli1e2:de1:a1:xee"},
		{command(3, 4, put("l", "e", "i0e"), put("0:", "\x00\xff", "é")), "li3ei4eli0e1:l1:e3:i0eeli0e2:0:2:\x00\xff2:éee"},
		{command(1, 1, repeated(20, drop("", ""))...), "li1ei1e" + strings.Repeat("li1e0:0:0:e", 20) + "e"},
		{command(1, 1, put("", letters(10), letters(3000))), "li1ei1eli0e0:10:xxxxxxxxxx3000:" + letters(3000) + "ee"},
	} {
		checkPutCommand(t, "written out", x.c, x.want, api.OK)
		checkGetCommand(t, "written out", x.want, x.c, api.OK)
		checkCommandDefined(t, "written out", x.c)
	}
}

// TestPutModel: P12.3 with the encodings written out; GetModel reads them.
func TestPutModel(t *testing.T) {
	for _, x := range []struct {
		m    api.Model
		want string
	}{
		{api.Model{}, "li0elelee"},
		{state(0, []api.Entry{}, []api.Client{}...), "li0elelee"},
		{state(7, nil), "li7elelee"},
		{state(top, nil), "li1073741824elelee"},
		{state(1, list(entry("", "a", "b"))), "li1ell0:1:a1:beelee"},
		{state(1, nil, client(1, 2, 60, 1)), "li1elelli1ei2ei60ei1eeee"},
		{state(1, list(entry("", "a", "b")), client(1, 1, 0, 1)), "li1ell0:1:a1:beelli1ei1ei0ei1eeee"},
		{state(12, list(entry("", "hi", "Hi"), entry("de", "hi", "Hallo {w}")), client(3, 9, 255, 0), client(11, top, 110, 12)), "li12ell0:2:hi2:Hiel2:de2:hi9:Hallo {w}eelli3ei9ei255ei0eeli11ei1073741824ei110ei12eeee"},
	} {
		checkPutModel(t, "written out", x.m, x.want, api.OK)
		checkGetModel(t, "written out", x.want, x.m, api.OK)
		checkModelDefined(t, "written out", x.m)
	}
}

// long is a command whose encoding has so many bytes, more than 1000.
func long(t *testing.T, n int) api.Command {
	t.Helper()
	text := letters(n - 100)
	for i := range 100 {
		c := command(1, 1, put("", "", text+letters(i)))
		if len(writtenCommand(c)) == n {
			return c
		}
	}
	t.Fatalf("%d bytes are not to be had", n)
	return api.Command{}
}

// TestLongCommands: P12.2 for encodings of up to 131072 bytes and beyond.
func TestLongCommands(t *testing.T) {
	for _, n := range []int{2000, 131000, 131071, 131072} {
		c := long(t, n)
		checkPutCommand(t, "long", c, writtenCommand(c), api.OK)
		checkGetCommand(t, "long", writtenCommand(c), c, api.OK)
		checkGetCommand(t, "long, without the last byte", writtenCommand(c)[:n-1], api.Command{}, api.ErrEnd)
	}
	for _, n := range []int{131073, 131074, 200000} {
		c := long(t, n)
		checkMay(t, "too long", c, true)
		checkPutCommand(t, "too long", c, "", api.ErrLong)
		checkGetCommand(t, "too long", writtenCommand(c), api.Command{}, api.ErrLong)
		refused(t, "too long", three(), c.Changes, api.ErrCatalog)
		c.Seq = 0
		checkPutCommand(t, "too long, and no command", c, "", api.ErrCommand)
		checkGetCommand(t, "too long, and no command", writtenCommand(c), api.Command{}, api.ErrLong)
	}
	checkPutCommand(t, "long in all", command(1, 1, repeated(20, put("", "", letters(6600)))...), "", api.ErrLong)
	checkGetCommand(t, "a byte behind", writtenCommand(long(t, 131072))+"e", api.Command{}, api.ErrLong)
}

// TestLongModels: P12.3 for encodings of up to 131072 bytes and beyond.
func TestLongModels(t *testing.T) {
	for _, clients := range [][]api.Client{nil, crowd(1), crowd(16)} {
		around := len(writtenModel(state(1, nil, clients...))) - len("le")
		for _, n := range []int{131000, 131071, 131072} {
			m := state(1, sized(t, n-around), clients...)
			s := writtenModel(m)
			checkPutModel(t, "long", m, s, api.OK)
			checkGetModel(t, "long", s, m, api.OK)
			checkGetModel(t, "long, without the last byte", s[:n-1], api.Model{}, api.ErrEnd)
			checkGetModel(t, "long, and a byte behind", s+"e", api.Model{}, map[bool]api.Errno{true: api.ErrLong, false: api.ErrByte}[n == 131072])
		}
		for _, n := range []int{131073, 131072 + around} {
			m := state(1, sized(t, n-around), clients...)
			checkRight(t, "too long", m, true)
			checkPutModel(t, "too long", m, "", api.ErrLong)
			checkGetModel(t, "too long", writtenModel(m), api.Model{}, api.ErrLong)
			m.Version = -1
			checkPutModel(t, "too long, and no model", m, "", api.ErrArg)
			checkGetModel(t, "too long, and no model", writtenModel(m), api.Model{}, api.ErrLong)
		}
	}
}

// TestGetNoValues: P12.2, P12.3 for strings that are the encoding of no value: the error of code.Get.
func TestGetNoValues(t *testing.T) {
	for _, x := range []struct {
		s    string
		want api.Errno
	}{
		{"", api.ErrEnd},
		{"l", api.ErrEnd},
		{"li1ei1eli0e0:1:a1:be", api.ErrEnd},
		{"li0elele", api.ErrEnd},
		{"li0", api.ErrEnd},
		{"li0e9:", api.ErrEnd},
		{"x", api.ErrByte},
		{"e", api.ErrByte},
		{"li1ei1eli0e0:1:a1:beex", api.ErrByte},
		{"li1ei1eli0e0:1:a1:beee", api.ErrByte},
		{"li0eleleee", api.ErrByte},
		{"li0elelee ", api.ErrByte},
		{"li0eleleeli0elelee", api.ErrByte},
		{"li01ei1eli0e0:1:a1:bee", api.ErrByte},
		{"li-0elelee", api.ErrByte},
		{"li9223372036854775808elelee", api.ErrByte},
		{"li1ei1eli0e00:1:a1:bee", api.ErrByte},
		{"i0ex", api.ErrByte},
		{strings.Repeat("l", 31) + strings.Repeat("e", 31), api.ErrDeep},
		{"li0elel" + strings.Repeat("l", 29) + strings.Repeat("e", 31), api.ErrDeep},
		{"li1ei1e" + strings.Repeat("li0e0:0:0:e", 800) + "e", api.ErrLong},
		{"l" + strings.Repeat("0:", 4000) + "e", api.ErrLong},
		{letters(131073), api.ErrLong},
		{letters(131072), api.ErrByte},
	} {
		checkGetCommand(t, "no value", x.s, api.Command{}, x.want)
		checkGetModel(t, "no value", x.s, api.Model{}, x.want)
	}
}

// Values of all kinds, for places where they do not belong; what they would belong to may stand among them.
func oddValues() []string {
	return []string{
		"i0e", "i1e", "i2e", "i-1e", "i1073741825e", "i4294967297e", "i9223372036854775807e", "i-9223372036854775808e",
		"0:", "1:1", "2:de", "3:i1e", "2:le", "le", "li1ee", "l0:e", "lle0:e", "llelee", "li1ei1ee", "l1:a1:ae", "li1ei1ei1ei1ee", "l0:1:a1:be", "li0e0:1:a1:be", "ll0:1:a1:bee", "lli1ei1ei0ei0eee",
	}
}

// pieces is a value as a list of what it is written as: each piece is a value, or begins or ends a list.
type pieces []string

func (p pieces) joined() string { return strings.Join(p, "") }

// isValue tells whether a piece is a value of its own.
func isValue(piece string) bool { return piece != "l" && piece != "e" }

// checkEachPiece calls a check for all strings that have another value, one more or one less at any place.
func checkEachPiece(p pieces, check func(s string)) {
	check(p.joined())
	for i := range p {
		for _, odd := range oddValues() {
			if i > 0 {
				check(slices.Insert(slices.Clone(p), i, odd).joined())
			}
			if isValue(p[i]) {
				check(slices.Replace(slices.Clone(p), i, i+1, odd).joined())
			}
		}
		if isValue(p[i]) {
			check(slices.Delete(slices.Clone(p), i, i+1).joined())
		} else if p[i] == "l" {
			end := endOf(p, i)
			check(slices.Delete(slices.Clone(p), i, end+1).joined())
			check(slices.Insert(slices.Clone(p), end, p[i:end+1]...).joined())
			check(slices.Insert(slices.Clone(p), i, p[i:end+1]...).joined())
			for _, odd := range oddValues() {
				check(slices.Replace(slices.Clone(p), i, end+1, odd).joined())
			}
		}
	}
}

// endOf answers where the list that begins at a piece ends.
func endOf(p pieces, i int) int {
	for open := 0; ; i++ {
		switch p[i] {
		case "l":
			open++
		case "e":
			open--
		}
		if open == 0 {
			return i
		}
	}
}

// TestGetCommandSpoiled: P12.2 for values that are nearly those of commands: other values, too few and too many, at every place.
func TestGetCommandSpoiled(t *testing.T) {
	for _, p := range []pieces{
		{"l", "i1e", "i1e", "l", "i0e", "0:", "1:a", "1:b", "e", "e"},
		{"l", "i5e", "i1e", "l", "i1e", "2:de", "1:a", "0:", "e", "l", "i0e", "2:de", "1:a", "1:x", "e", "e"},
	} {
		checkEachPiece(p, func(s string) { checkGetCommandDefined(t, "spoiled", s) })
	}
	for _, s := range []string{
		"i1e", "0:", "1:x", "le", "li1ee", "li1ei1ee", "l1:11:1li0e0:1:a1:bee", "li1e1:1li0e0:1:a1:bee", "llei1eli0e0:1:a1:bee", "li1eleli0e0:1:a1:bee",
		"li1eli0e0:1:a1:bee", "li1ei1ei1eli0e0:1:a1:bee", "li1ei1e0:e", "li1ei1ei0ee", "li1ei1elee", "li1ei1eli0eee", "li1ei1eli0e0:ee", "li1ei1eli0e0:1:aee", "li1ei1eli0e0:1:a1:b0:ee", "li1ei1el0:1:a1:bee", "li1ei1el1:00:1:a1:bee", "li1ei1elle0:1:a1:bee",
		"li1ei1eli2e0:1:a1:bee", "li1ei1eli-1e0:1:a1:bee", "li1ei1eli256e0:1:a1:bee", "li1ei1eli4294967296e0:1:a1:bee", "li1ei1eli4294967297e0:1:a1:bee",
		"li1ei1eli0ei0e1:a1:bee", "li1ei1eli0e0:i1e1:bee", "li1ei1eli0e0:1:ai1eee", "li1ei1eli0ele1:a1:bee", "li1ei1eli0e0:le1:bee", "li1ei1eli0e0:1:aleee",
		"li1ei1ell0:1:a1:beee", "li1ei1elli0e0:1:a1:beee", "li1ei1eli0el0:1:a1:beee",
		"li0ei1eli0e0:1:a1:bee", "li1ei0eli0e0:1:a1:bee", "li-1ei1eli0e0:1:a1:bee", "li1ei-1eli0e0:1:a1:bee", "li1073741825ei1eli0e0:1:a1:bee", "li1ei1073741825eli0e0:1:a1:bee", "li4294967297ei1eli0e0:1:a1:bee", "li1ei4294967297eli0e0:1:a1:bee", "li9223372036854775807ei1eli0e0:1:a1:bee",
		"li1ei1e" + strings.Repeat("li0e0:1:a1:be", 21) + "e", "li1ei1e" + strings.Repeat("li0e0:1:a1:be", 799) + "e", "li1ei1e" + strings.Repeat("li0e0:1:a1:be", 3) + "le" + "e",
		"li0elelee", "li1ell0:1:a1:beelee",
	} {
		checkGetCommand(t, "spoiled", s, api.Command{}, api.ErrCommand)
		checkGetCommandDefined(t, "spoiled", s)
	}
}

// TestGetModelSpoiled: P12.3 for values that are nearly those of models.
func TestGetModelSpoiled(t *testing.T) {
	for _, p := range []pieces{
		{"l", "i0e", "l", "e", "l", "e", "e"},
		{"l", "i2e", "l", "l", "0:", "1:a", "1:b", "e", "e", "l", "l", "i1e", "i1e", "i0e", "i1e", "e", "e", "e"},
		{"l", "i2e", "l", "l", "0:", "1:a", "0:", "e", "l", "2:de", "1:b", "1:c", "e", "e", "l", "l", "i1e", "i1e", "i0e", "i1e", "e", "l", "i3e", "i2e", "i60e", "i0e", "e", "e", "e"},
	} {
		checkEachPiece(p, func(s string) { checkGetModelDefined(t, "spoiled", s) })
	}
	for _, s := range []string{
		"i0e", "0:", "1:x", "le", "li0ee", "li0elee", "li0elelelee", "llei0elee", "llelei0ee", "l0:lelee", "l1:0lelee", "llelelee",
		"li0ei0elee", "li0e0:lee", "li0elei0ee", "li0ele0:e", "li0e2:lelee", "li0ele2:lee", "li0e1:alee", "li0ele1:ae", "li0ei7elee", "li0elei7ee",
		"li0eli0eelee", "li0el0:elee", "li0el1:aelee", "li0elleelee", "li0ell0:eelee", "li0ell0:1:aeelee", "li0ell0:1:a1:b0:eelee", "li0elli0e1:a1:beelee", "li0ell0:i0e1:beelee", "li0ell0:1:ai0eeelee", "li0ell0:1:aleeelee", "li0elli0e0:1:a1:beelee", "li0elll0:1:a1:beeelee",
		"li0eleli0eee", "li0elel0:ee", "li0elelleee", "li0elelli1eeee", "li0elelli1ei1ei0eeee", "li0elelli1ei1ei0ei0ei0eeee", "li0elell1:1i1ei0ei0eeee", "li0elelli1e1:1i0ei0eeee", "li0elelli1ei1e1:0i0eeee", "li0elelli1ei1ei0e1:0eee", "li0elelli1ei1ei0eleeee", "li0elell0:0:0:0:eee", "li0elellleleleleeee",
		"li-1elelee", "li1073741825elelee", "li4294967296elelee", "li4294967297elelee", "li9223372036854775807elelee", "li-9223372036854775808elelee",
		"li0elelli0ei1ei0ei0eeee", "li0elelli1ei0ei0ei0eeee", "li0elelli1ei1ei-1ei0eeee", "li0elelli1ei1ei256ei0eeee", "li0elelli1ei1ei0ei-1eeee", "li0elelli1ei1ei0ei1eeee", "li1elelli1ei1ei0ei2eeee", "li0elelli1073741825ei1ei0ei0eeee", "li0elelli1ei1073741825ei0ei0eeee",
		"li0elelli4294967297ei1ei0ei0eeee", "li0elelli1ei4294967297ei0ei0eeee", "li0elelli1ei1ei4294967296ei0eeee", "li0elelli1ei1ei0ei4294967296eeee",
		"li1elelli2ei1ei0ei0eeli1ei1ei0ei0eeee", "li1elelli2ei1ei0ei0eeli2ei1ei0ei0eeee", "li1elelli2ei1ei0ei0eeli2ei2ei0ei0eeee",
		"li1ell0:0:1:beelee", "li1ell0:1:a1:{eelee", "li1ell1:-1:a1:beelee", "li1ell0:1: 1:beelee", "li1ell0:1:b1:bel0:1:a1:beelee", "li1ell0:1:a1:bel0:1:a1:beelee", "li1ell0:1:a1:bel0:1:a1:ceelee",
		"li1ei1eli0e0:1:a1:bee", "ll0:1:a1:bee", "li0e" + strings.Repeat("l", 28) + strings.Repeat("e", 28) + "lee",
	} {
		checkGetModel(t, "spoiled", s, api.Model{}, api.ErrArg)
		checkGetModelDefined(t, "spoiled", s)
	}
}

// TestGetManyElements: P12.2, P12.3 for one element that is wrong among so many, up to too many.
func TestGetManyElements(t *testing.T) {
	for _, n := range []int{1, 2, 15, 16, 17, 19, 20, 21, 199, 200, 201, 700} {
		for _, i := range []int{0, n / 2, n - 1} {
			for _, odd := range append(oddValues(), "l0:1:z1:{e", "li9ei0ei0ei0ee") {
				changes, clients := "", ""
				for k := range n {
					if k == i {
						changes, clients = changes+odd, clients+odd
						continue
					}
					changes += "li0e0:1:a1:be"
					clients += "l" + writtenNumbers(k+1, 1, 0, 0) + "e"
				}
				entries := writtenEntries(some(n)[:i])
				entries = entries[:len(entries)-1] + odd + writtenEntries(some(n)[i+1:])[1:]
				checkGetCommandDefined(t, "among "+strconv.Itoa(n), "li1ei1e"+changes+"e")
				checkGetModelDefined(t, "among "+strconv.Itoa(n), "li0e"+entries+"lee")
				checkGetModelDefined(t, "among "+strconv.Itoa(n), "li0elel"+clients+"ee")
			}
		}
	}
}

// TestGetNearly: P12.2, P12.3 for each string that differs from an encoding in one byte, has one more or one less, or is cut off.
func TestGetNearly(t *testing.T) {
	const bytes = "lie:-0129ax{"
	for _, s := range []string{
		"li1ei1eli0e0:1:a1:bee", "li7ei12eli1e2:de1:x0:eli0e0:1:a3:{n}ee", "li1073741824ei1eli1e0:1:a0:ee",
		"li0elelee", "li1ell0:1:a1:beelli1ei1ei0ei1eeee", "li12ell0:1:a1:bel2:de1:a0:eelli3ei9ei255ei0eeli11ei1073741824ei110ei12eeee",
	} {
		check := func(name, s string) {
			checkGetCommandDefined(t, name, s)
			checkGetModelDefined(t, name, s)
		}
		for i := range len(s) + 1 {
			check("cut off", s[:i])
			for j := range len(bytes) {
				c := bytes[j : j+1]
				check("one more", s[:i]+c+s[i:])
				if i < len(s) {
					check("another", s[:i]+c+s[i+1:])
				}
			}
			if i < len(s) {
				check("one less", s[:i]+s[i+1:])
			}
		}
	}
}

// TestGetAnswersNewMemory: what a call answers is not touched by a later one.
func TestGetAnswersNewMemory(t *testing.T) {
	m, c := three(), command(4, 5, oddChanges()...)
	firstModel, _ := model.GetModel(writtenModel(m))
	secondModel, _ := model.GetModel(writtenModel(m))
	firstCommand, _ := model.GetCommand(writtenCommand(c))
	secondCommand, _ := model.GetCommand(writtenCommand(c))
	scribbleModel(firstModel)
	scribble(firstCommand.Changes)
	if !sameModel(secondModel, m) || !sameCommand(secondCommand, c) {
		t.Errorf("two answers share their memory: %s, %s", brief(secondModel), brief(secondCommand))
	}
}
