package model_test

import (
	"math/rand"
	"slices"
	"strconv"
	"strings"
	"testing"

	"hornbook/api"
	"hornbook/catalog"
	"hornbook/model"
)

// What samples are made of: so few names that changes meet what is there, and so few IDs that clients come again.
var (
	locales = []string{"", "a", "a-b", "b", "de"}
	keys    = []string{"a", "b", "c", "-", "a.b"}
	texts   = []string{"", "x", "y", "{n}", "{n, plural, one {#} other {{s}}}", "\x00\xff", "12:e"}
	numbers = []int{-1, 0, 1, 2, 255, 256, top - 1, top, top + 1, 1<<32 + 1, 1<<63 - 1, -1 << 63}
)

func one[T any](r *rand.Rand, of []T) T { return of[r.Intn(len(of))] }

func someEntry(r *rand.Rand) api.Entry { return entry(one(r, locales), one(r, keys), one(r, texts)) }

// someChange mostly can be applied.
func someChange(r *rand.Rand) api.Change {
	switch r.Intn(30) {
	case 0:
		return one(r, oddChanges())
	case 1:
		return put("", "long"+strconv.Itoa(r.Intn(80)), letters(1990))
	case 2, 3, 4, 5, 6:
		x := someEntry(r)
		return drop(x.Locale, x.Key)
	}
	x := someEntry(r)
	return put(x.Locale, x.Key, x.Pattern)
}

func someCommand(r *rand.Rand) api.Command {
	c := command(1+r.Intn(20), 1+r.Intn(6))
	for range 1 + r.Intn(20)%(1+r.Intn(20)) {
		c.Changes = append(c.Changes, someChange(r))
	}
	return c
}

func someCommands(r *rand.Rand, n int) []api.Command {
	var l []api.Command
	for range n {
		c := someCommand(r)
		if len(l) > 0 && r.Intn(4) == 0 {
			c = one(r, l)
			c.Seq += r.Intn(3)
		}
		l = append(l, c)
	}
	return l
}

// someModel is a valid one; now and then its version is the last, or nearly, or its catalog nearly too great.
func someModel(r *rand.Rand) api.Model {
	m := state(r.Intn(5), nil)
	if r.Intn(10) == 0 {
		m.Version = top - r.Intn(2)
	}
	switch r.Intn(30) {
	case 0:
		m.Entries = some(190 + r.Intn(11))
	case 1:
		for _, x := range some(63 + r.Intn(2)) {
			m.Entries = append(m.Entries, entry("long", x.Key, letters(2000)))
		}
	}
	for range r.Intn(12) {
		if next, e := catalog.Apply(m.Entries, changes(someChange(r))); e == api.OK {
			m.Entries = next
		}
	}
	if _, e := catalog.Bytes(m.Entries); e != api.OK {
		m.Entries = nil
	}
	for id := range 21 {
		if id > 0 && r.Intn(3) > 0 && len(m.Clients) < 16 {
			m.Clients = append(m.Clients, client(id, 1+r.Intn(6), api.Errno(r.Intn(256)), r.Intn(m.Version+1)))
		}
	}
	return m
}

// broken is the same model, but for something that may make it wrong.
func broken(r *rand.Rand, m api.Model) api.Model {
	m.Entries, m.Clients = slices.Clone(m.Entries), append(slices.Clone(m.Clients), client(30, 1, 0, 0))
	i, j := r.Intn(len(m.Clients)), r.Intn(len(m.Clients))
	switch r.Intn(8) {
	case 0:
		m.Version = one(r, numbers)
	case 1:
		m.Clients[i].ID = one(r, numbers)
	case 2:
		m.Clients[i].Seq = one(r, numbers)
	case 3:
		m.Clients[i].Answer = api.Errno(one(r, numbers))
	case 4:
		m.Clients[i].Version = one(r, append(numbers, m.Version, m.Version+1))
	case 5:
		m.Clients[i], m.Clients[j] = m.Clients[j], m.Clients[i]
	case 6:
		m.Clients = append(m.Clients, client(31, 1, 0, 0), client(32, 1, 0, 0))
	case 7:
		m.Entries = append(m.Entries, someEntry(r))
	}
	return m
}

func brokenCommand(r *rand.Rand, c api.Command) api.Command {
	switch r.Intn(4) {
	case 0:
		c.Client = one(r, numbers)
	case 1:
		c.Seq = one(r, numbers)
	case 2:
		c.Changes = nil
	case 3:
		c.Changes = repeated(19+r.Intn(4), c.Changes[0])
	}
	return c
}

// samples calls a test with lists and what made them; -short takes fewer.
func samples(t *testing.T, n int, test func(r *rand.Rand)) {
	t.Helper()
	if testing.Short() {
		n /= 10
	}
	for seed := range n {
		test(rand.New(rand.NewSource(int64(seed))))
		if t.Failed() {
			t.Fatalf("with the seed %d", seed)
		}
	}
}

// TestSamples: P12.1 to P12.4 by samples, right and wrong ones.
func TestSamples(t *testing.T) {
	samples(t, 1000, func(r *rand.Rand) {
		m, c := someModel(r), someCommand(r)
		checkRight(t, "a model", m, true)
		checkMay(t, "a command", c, true)
		for _, m := range []api.Model{m, broken(r, m), broken(r, broken(r, m))} {
			checkModelDefined(t, "a sample", m)
			for range 3 {
				checkDoDefined(t, "a sample", m, someCommand(r))
			}
			checkDoDefined(t, "a sample", m, brokenCommand(r, c))
		}
		checkCommandDefined(t, "a sample", c)
		checkCommandDefined(t, "a sample", brokenCommand(r, c))
		l := someCommands(r, r.Intn(20))
		checkFoldDefined(t, "a sample", l)
		checkFoldDefined(t, "a sample", slices.Insert(l, r.Intn(len(l)+1), brokenCommand(r, c)))
	})
}

// checkTwice: P12.5: a command changes nothing the second time, and has the same result.
func checkTwice(t testing.TB, m api.Model, c api.Command) {
	t.Helper()
	once, first, e := model.Do(m, c)
	if e != api.OK {
		return
	}
	twice, second, e := model.Do(once, c)
	if !sameModel(once, twice) || first != second || e != api.OK {
		t.Errorf("%s makes of %s %s, %+v, and the second time %s, %+v, %d", brief(c), brief(m), brief(once), first, brief(twice), second, e)
	}
}

// checkParts: P12.5: a list of commands in two parts makes the same model as at once.
func checkParts(t testing.TB, l []api.Command, i int) {
	t.Helper()
	whole, wholeErr := model.Fold(l)
	m, e := model.Fold(l[:i])
	for _, c := range l[i:] {
		if e != api.OK {
			break
		}
		m, _, e = model.Do(m, c)
	}
	if (e == api.OK) != (wholeErr == api.OK) || e == api.OK && !sameModel(m, whole) {
		t.Errorf("%s make %s, %d in parts behind %d, and %s, %d at once", brief(l), brief(m), e, i, brief(whole), wholeErr)
	}
}

// TestTwice: P12.5 for all kinds of models and commands.
func TestTwice(t *testing.T) {
	samples(t, 800, func(r *rand.Rand) {
		m := someModel(r)
		for range 10 {
			checkTwice(t, m, someCommand(r))
		}
	})
	checkTwice(t, state(1, sized(t, 131072)), command(1, 1, good()))
}

// TestParts: P12.5 for commands that are cut in two at each place.
func TestParts(t *testing.T) {
	samples(t, 120, func(r *rand.Rand) {
		l := someCommands(r, r.Intn(25))
		if r.Intn(10) == 0 {
			l = append(l, brokenCommand(r, someCommand(r)))
		}
		for i := range len(l) + 1 {
			checkParts(t, l, i)
		}
	})
}

// checkVersions: P12.6: along commands, the version increases by one where a command has the Answer OK for the first time, and nowhere else.
func checkVersions(t testing.TB, m api.Model, l []api.Command) {
	t.Helper()
	type name struct{ client, seq int }
	had := map[name]int{}
	for _, c := range m.Clients {
		if c.Answer == api.OK {
			had[name{c.ID, c.Seq}]++
		}
	}
	for _, c := range l {
		next, result, e := model.Do(m, c)
		if e != api.OK {
			return
		}
		step, n := 0, name{c.Client, c.Seq}
		if result.Answer == api.OK {
			if had[n]++; had[n] == 1 {
				step = 1
			}
		}
		if next.Version != m.Version+step || step == 1 && result.Version != next.Version || step == 0 && !slices.Equal(next.Entries, m.Entries) {
			t.Errorf("%s makes of %s %s, %+v", brief(c), brief(m), brief(next), result)
		}
		if !model.Right(next) {
			t.Errorf("%s makes of %s what is no model: %s", brief(c), brief(m), brief(next))
		}
		m = next
	}
}

// TestVersionsRise: P12.6 for all kinds of models and lists of commands.
func TestVersionsRise(t *testing.T) {
	samples(t, 500, func(r *rand.Rand) {
		checkVersions(t, someModel(r), someCommands(r, r.Intn(40)))
		checkVersions(t, api.Model{}, someCommands(r, r.Intn(40)))
	})
}

// changed is a text with one byte that is another, if it was not that already.
func changed(r *rand.Rand, s string) string {
	i := r.Intn(len(s))
	return s[:i] + string([]byte{one(r, []byte("lie0123456789:-aAbxz.{}#'\x00\xff"))}) + s[i+1:]
}

// checkWrittenAgain: P12.6: whatever is read has these bytes, and no others.
func checkWrittenAgain(t testing.TB, s string) {
	t.Helper()
	if c, e := model.GetCommand(s); e == api.OK {
		if again, e := model.PutCommand(c); again != s || e != api.OK {
			t.Errorf("the bytes of what GetCommand reads of %s are %s, %d", brief(s), brief(again), e)
		}
	}
	if m, e := model.GetModel(s); e == api.OK {
		if again, e := model.PutModel(m); again != s || e != api.OK {
			t.Errorf("the bytes of what GetModel reads of %s are %s, %d", brief(s), brief(again), e)
		}
	}
}

// TestRoundTrip: P12.6: what is written is read again, and what is read is written the same.
func TestRoundTrip(t *testing.T) {
	samples(t, 500, func(r *rand.Rand) {
		c, m := someCommand(r), someModel(r)
		if s, e := model.PutCommand(c); e != api.ErrLong || len(writtenCommand(c)) <= 131072 {
			again, wrong := model.GetCommand(s)
			if e != api.OK || wrong != api.OK || !sameCommand(again, c) {
				t.Errorf("GetCommand of the bytes of %s answers %s, %d, %d", brief(c), brief(again), e, wrong)
			}
			for range 5 {
				checkWrittenAgain(t, changed(r, s))
			}
		}
		if s, e := model.PutModel(m); e != api.ErrLong || len(writtenModel(m)) <= 131072 {
			again, wrong := model.GetModel(s)
			if e != api.OK || wrong != api.OK || !sameModel(again, m) {
				t.Errorf("GetModel of the bytes of %s answers %s, %d, %d", brief(m), brief(again), e, wrong)
			}
			for range 5 {
				checkWrittenAgain(t, changed(r, s))
			}
		}
		checkChunks(t, m)
	})
}

// TestAllSequences: P12.1, P12.5, P12.6 for each sequence of up to four commands of two clients.
func TestAllSequences(t *testing.T) {
	var each []api.Command
	for _, id := range []int{1, 2} {
		for _, seq := range []int{1, 2, 4} {
			for _, x := range changes(put("", "a", strconv.Itoa(10*id+seq)), drop("", "a")) {
				each = append(each, command(id, seq, x))
			}
		}
	}
	depth := 4
	if testing.Short() {
		depth = 3
	}
	var follow func(m api.Model, l []api.Command)
	follow = func(m api.Model, l []api.Command) {
		checkFold(t, "a sequence", l, m, api.OK)
		if len(l) == depth {
			checkVersions(t, api.Model{}, l)
			return
		}
		for _, c := range each {
			next, result, e := slowDo(m, c)
			checkDo(t, "a sequence", m, c, next, result, e)
			checkTwice(t, m, c)
			follow(next, append(slices.Clone(l), c))
		}
	}
	follow(api.Model{}, nil)
}

// fuzzed is what FuzzGet begins with.
func fuzzed() []string {
	all := []string{"", "x", "i0e", "le", "li0elelee", "li1ei1ee", "li1ei1eli2e0:0:0:ee", "lleleli0ee", strings.Repeat("l", 31)}
	for _, m := range []api.Model{{}, three(), state(3, some(3), crowd(16)...), state(3, some(3), crowd(17)...), state(-1, nil), state(1, list(entry("", "", "{")))} {
		all = append(all, writtenModel(m))
	}
	for _, c := range []api.Command{{}, command(1, 1, good()), command(top, top, oddChanges()...), command(2, 3, repeated(21, drop("", "a"))...)} {
		all = append(all, writtenCommand(c))
	}
	return all
}

// FuzzGet: P12.2 to P12.4, P12.6 for any text.
func FuzzGet(f *testing.F) {
	for _, s := range fuzzed() {
		f.Add(s)
	}
	f.Fuzz(func(t *testing.T, s string) {
		checkGetCommandDefined(t, "any text", s)
		checkGetModelDefined(t, "any text", s)
		checkWrittenAgain(t, s)
		if m, e := model.GetModel(s); e == api.OK {
			checkModelDefined(t, "any text", m)
			checkChunks(t, m)
			checkDoDefined(t, "any text", m, command(10, 8, good()))
		}
		if c, e := model.GetCommand(s); e == api.OK {
			checkCommandDefined(t, "any text", c)
			checkDoDefined(t, "any text", three(), c)
			checkFoldDefined(t, "any text", []api.Command{command(c.Client, 1, good()), c})
		}
	})
}

// FuzzDo: P12.1, P12.5, P12.6 for any numbers and any change, on models of all kinds.
func FuzzDo(f *testing.F) {
	f.Add(10, 7, 3, 0, 5, true, "", "a", "")
	f.Add(15, 1, 0, 255, top, false, "de", "m", "{n}")
	f.Add(top, top, top, 256, -1, false, "-", "", "{")
	f.Fuzz(func(t *testing.T, id, seq, stored, answer, version int, drops bool, locale, key, text string) {
		c := command(id, seq, api.Change{Drop: drops, Entry: entry(locale, key, text)})
		checkCommandDefined(t, "any command", c)
		late := state(version, three().Entries, client(id, stored, api.Errno(answer), version))
		for _, m := range []api.Model{{}, three(), late, state(version, some(200), crowd(16)...), state(top, nil, crowd(15)...)} {
			checkModelDefined(t, "any command", m)
			checkDoDefined(t, "any command", m, c)
			checkTwice(t, m, c)
			checkVersions(t, m, []api.Command{c, c, command(id, stored, c.Changes...), command(id, seq+1, good())})
		}
		for i := range 4 {
			checkParts(t, []api.Command{c, command(stored, seq, good(), c.Changes[0]), c}, i)
		}
	})
}
