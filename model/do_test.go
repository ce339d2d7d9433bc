package model_test

import (
	"slices"
	"testing"

	"hornbook/api"
	"hornbook/model"
)

// TestExamples: the chapter's table, a command after the other.
func TestExamples(t *testing.T) {
	one := state(1, list(entry("", "a", "b")), client(1, 1, api.OK, 1))
	two := state(1, list(entry("", "a", "b")), client(1, 2, api.ErrKey, 1))
	first, second := command(1, 1, put("", "a", "b")), command(1, 2, drop("", "x"))
	checkDo(t, "the first", api.Model{}, first, one, client(1, 1, api.OK, 1), api.OK)
	checkDo(t, "the same again", one, first, one, client(1, 1, api.OK, 1), api.OK)
	checkDo(t, "the second", one, second, two, client(1, 2, api.ErrKey, 1), api.OK)
	checkDo(t, "the second again", two, second, two, client(1, 2, api.ErrKey, 1), api.OK)
	checkDo(t, "the first again", two, first, two, client(1, 1, api.ErrStale, 0), api.OK)
	checkFold(t, "all of them", []api.Command{first, first, second, first}, two, api.OK)
}

// checkStep: P12.1 for a command that is executed; what the model and the result are then is written out.
func checkStep(t *testing.T, name string, m api.Model, c api.Command, want api.Model, result api.Client) {
	t.Helper()
	checkDo(t, name, m, c, want, result, api.OK)
	checkDoDefined(t, name, m, c)
	checkDo(t, name+", again", want, c, want, result, api.OK)
}

// three is a model with three clients and two entries, at version 5.
func three() api.Model {
	return state(5, list(entry("", "a", "A"), entry("de", "m", "M")), client(10, 7, api.OK, 3), client(20, 7, api.ErrKey, 4), client(30, 7, 255, 0))
}

// with is a model in which a client has another result, or there is a new one at that place.
func with(m api.Model, i int, c api.Client) api.Model {
	l := slices.Clone(m.Clients)
	if i < len(l) && l[i].ID == c.ID {
		l[i] = c
	} else {
		l = slices.Insert(l, i, c)
	}
	return state(m.Version, m.Entries, l...)
}

// then is a model at its next version, with these entries.
func then(m api.Model, entries ...api.Entry) api.Model {
	return state(m.Version+1, entries, m.Clients...)
}

// TestSameSeq: P12.1 for a command with the client's Seq: whatever its changes are, what is stored is told again.
func TestSameSeq(t *testing.T) {
	m := three()
	for _, x := range append(oddChanges(), good(), drop("", "a"), put("", "a", "other")) {
		for _, c := range m.Clients {
			checkStep(t, "the same Seq", m, command(c.ID, 7, x), m, c)
			checkStep(t, "the same Seq", m, command(c.ID, 7, repeated(20, x)...), m, c)
		}
	}
	for _, seq := range []int{1, 2, 1000, top - 1, top} {
		for _, answer := range []api.Errno{0, 2, 60, 110, 121, 130, 255} {
			for _, version := range []int{0, 1, 5} {
				c := client(10, seq, answer, version)
				m := with(m, 0, c)
				checkStep(t, "the same Seq", m, command(10, seq, good()), m, c)
			}
		}
	}
}

// TestStale: P12.1 for a command whose Seq is less than the client's, by one or by more.
func TestStale(t *testing.T) {
	m := three()
	for _, x := range append(oddChanges(), good(), drop("", "a")) {
		for _, c := range m.Clients {
			for _, seq := range []int{1, 2, 5, 6} {
				checkStep(t, "a lesser Seq", m, command(c.ID, seq, x), m, client(c.ID, seq, api.ErrStale, 0))
			}
		}
	}
	m = with(m, 1, client(20, top, api.OK, 5))
	for _, seq := range []int{1, 2, 7, top - 2, top - 1} {
		checkStep(t, "a lesser Seq", m, command(20, seq, good()), m, client(20, seq, api.ErrStale, 0))
	}
}

// TestNextSeq: P12.1 for a command whose Seq is greater than the client's, by one or by more.
func TestNextSeq(t *testing.T) {
	m := three()
	entries := list(entry("", "a", "A"), entry("", "good", "Good"), entry("de", "m", "M"))
	for i, c := range m.Clients {
		for _, seq := range []int{8, 9, 15, 1000, top - 1, top} {
			result := client(c.ID, seq, api.OK, 6)
			checkStep(t, "a greater Seq", m, command(c.ID, seq, good()), with(then(m, entries...), i, result), result)
			result = client(c.ID, seq, api.ErrKey, 5)
			checkStep(t, "a greater Seq", m, command(c.ID, seq, drop("", "no")), with(m, i, result), result)
		}
	}
}

// TestNewClient: P12.1 for a client that is not there, whose first Seq may be any, ahead of the others, between them and behind them.
func TestNewClient(t *testing.T) {
	for _, seq := range []int{1, 2, 7, top - 1, top} {
		for _, id := range []int{1, 2, 1000, top - 1, top} {
			result := client(id, seq, api.OK, 1)
			checkStep(t, "the only one", api.Model{}, command(id, seq, good()), state(1, list(good().Entry), result), result)
			result = client(id, seq, api.ErrKey, 0)
			checkStep(t, "the only one", api.Model{}, command(id, seq, drop("", "no")), state(0, nil, result), result)
		}
		for id, i := range map[int]int{1: 0, 9: 0, 11: 1, 19: 1, 21: 2, 29: 2, 31: 3, 1000: 3, top: 3} {
			m := three()
			result := client(id, seq, api.OK, 6)
			checkStep(t, "a new one", m, command(id, seq, drop("de", "m")), with(then(m, entry("", "a", "A")), i, result), result)
			result = client(id, seq, api.ErrCatalog, 5)
			checkStep(t, "a new one", m, command(id, seq, put("de", "m", "{")), with(m, i, result), result)
		}
	}
}

// TestManyClients: P12.1 for a new client where there are up to 16.
func TestManyClients(t *testing.T) {
	for n := range 17 {
		for i := range n + 1 {
			m := state(4, some(3), crowd(n)...)
			c := command(10*i+5, 3, drop("de", "k1001"))
			if n == 16 {
				checkStep(t, "no room", m, c, m, client(c.Client, 3, api.ErrFull, 0))
				continue
			}
			result := client(c.Client, 3, api.OK, 5)
			checkStep(t, "room", m, c, with(then(m, some(3)[0], some(3)[2]), i, result), result)
		}
	}
	full := state(4, some(3), crowd(16)...)
	for _, x := range append(oddChanges(), good(), drop("de", "k1001")) {
		for _, id := range []int{1, 9, 11, 85, 159, 161, top} {
			for _, seq := range []int{1, 2, top} {
				checkStep(t, "no room", full, command(id, seq, x), full, client(id, seq, api.ErrFull, 0))
			}
		}
	}
	for i := range 16 {
		result := client(10*i+10, 20, api.OK, 5)
		checkStep(t, "one of 16", full, command(result.ID, 20, drop("de", "k1000")), with(then(full, some(3)[1:]...), i, result), result)
		result = client(10*i+10, 20, api.ErrKey, 4)
		checkStep(t, "one of 16", full, command(result.ID, 20, drop("", "k1000")), with(full, i, result), result)
	}
}

// TestManyClientsInAnyOrder: P12.1 for clients that come one by one, rising, falling or mixed, and one too many.
func TestManyClientsInAnyOrder(t *testing.T) {
	for _, step := range []int{1, 3, 5, 7, 9, 11, 13, 15} {
		var commands []api.Command
		want := state(0, list(entry("", "k", "x")))
		for i := range 16 {
			id := (i*step)%16 + 1
			commands = append(commands, command(id, i+1, put("", "k", "x")))
			want = with(state(i+1, want.Entries, want.Clients...), placeOf(want.Clients, id), client(id, i+1, api.OK, i+1))
		}
		checkFold(t, "16 clients", commands, want, api.OK)
		commands = append(commands, command(17, 1, good()), command(top, 1, good()))
		checkFold(t, "18 clients", commands, want, api.OK)
	}
}

// placeOf tells how many clients have a lesser ID.
func placeOf(l []api.Client, id int) int {
	n := 0
	for _, c := range l {
		if c.ID < id {
			n++
		}
	}
	return n
}

// refused: P12.1 for a command that cannot be carried out: only its client, old or new, has another result then.
func refused(t *testing.T, name string, m api.Model, changes []api.Change, answer api.Errno) {
	t.Helper()
	for _, id := range []int{5, 10, 15} {
		i := placeOf(m.Clients, id)
		result := client(id, 9, answer, m.Version)
		checkStep(t, name, m, command(id, 9, changes...), with(m, i, result), result)
	}
}

// executed: P12.1 for a command that can be carried out.
func executed(t *testing.T, name string, m api.Model, changes []api.Change, entries []api.Entry) {
	t.Helper()
	for _, id := range []int{5, 10, 15} {
		i := placeOf(m.Clients, id)
		result := client(id, 9, api.OK, m.Version+1)
		checkStep(t, name, m, command(id, 9, changes...), with(then(m, entries...), i, result), result)
	}
}

func changes(list ...api.Change) []api.Change { return list }

// TestAnswersOfApply: P12.1 for each error of catalog.Apply, at whatever change it comes.
func TestAnswersOfApply(t *testing.T) {
	wrong := map[api.Errno][]api.Change{
		api.ErrCatalog: changes(put("", "", "x"), put("de-", "a", "x"), put("", "a", "{"), put("", "a", letters(2001)), dropping(entry("", "a", "A")), dropping(entry("", "no", "x"))),
		api.ErrKey:     changes(drop("", "no"), drop("de", "a"), drop("", ""), drop("-", "a")),
	}
	for answer, l := range wrong {
		for _, x := range l {
			refused(t, "a wrong change", three(), changes(x), answer)
			refused(t, "the last of 20", three(), append(repeated(19, good()), x), answer)
			refused(t, "the first of 20", three(), append(changes(x), repeated(19, good())...), answer)
			refused(t, "one of many", three(), changes(drop("", "a"), put("", "b", "B"), x, put("", "c", "C")), answer)
		}
	}
	refused(t, "two errors", three(), changes(drop("", "no"), put("", "", "")), api.ErrKey)
	refused(t, "two errors", three(), changes(put("", "", ""), drop("", "no")), api.ErrCatalog)
	refused(t, "a drop twice", three(), changes(drop("", "a"), drop("", "a")), api.ErrKey)

	full := state(5, some(200), three().Clients...)
	refused(t, "the entry 201", full, changes(good()), api.ErrLong)
	refused(t, "the entry 201, for a while", full, changes(good(), drop("", "good")), api.ErrLong)
	executed(t, "room is made", full, changes(drop("de", "k1000"), good()), append(list(good().Entry), some(200)[1:]...))
	executed(t, "a new pattern", full, changes(put("de", "k1000", "p0")), some(200))
}

// TestAnswersOfBytes: P12.1 for entries that each may be, in a catalog whose encoding is too long.
func TestAnswersOfBytes(t *testing.T) {
	m := state(5, sized(t, 131072), three().Clients...)
	refused(t, "too long", m, changes(good()), api.ErrLong)
	refused(t, "too long", m, changes(put("", "a", "")), api.ErrLong)
	refused(t, "too long by a byte", m, changes(put("de", m.Entries[79].Key, m.Entries[79].Pattern+"x")), api.ErrLong)
	refused(t, "an error ahead", m, changes(good(), drop("", "no")), api.ErrKey)
	executed(t, "too long for a while", m, changes(good(), drop("", "good")), m.Entries)
	executed(t, "the same pattern", m, changes(put("de", m.Entries[0].Key, m.Entries[0].Pattern)), m.Entries)
	executed(t, "a shorter catalog", m, changes(drop("de", m.Entries[0].Key)), m.Entries[1:])

	m.Entries = sized(t, 131063) // an entry without anything but a key of a byte has 9 bytes: l0:1:a0:e
	executed(t, "just as long as it may be", m, changes(put("", "a", "")), append(list(entry("", "a", "")), m.Entries...))
	m.Entries = sized(t, 131064)
	refused(t, "one byte too long", m, changes(put("", "a", "")), api.ErrLong)
}

// TestLastVersion: P12.1 for a model that has the greatest Version, or the one ahead of that.
func TestLastVersion(t *testing.T) {
	m := state(top, three().Entries, three().Clients...)
	for _, c := range [][]api.Change{changes(good()), changes(drop("", "a")), changes(put("", "a", "A")), changes(good(), drop("", "good")), repeated(20, good())} {
		refused(t, "no version is left", m, c, api.ErrFull)
	}
	refused(t, "an error ahead", m, changes(drop("", "no")), api.ErrKey)
	refused(t, "an error ahead", m, changes(put("", "a", "{")), api.ErrCatalog)
	full, long := m, m
	full.Entries, long.Entries = some(200), sized(t, 131072)
	refused(t, "an error ahead", full, changes(good()), api.ErrLong)
	refused(t, "an error ahead", long, changes(good()), api.ErrLong)
	checkStep(t, "a stale one", m, command(10, 6, good()), m, client(10, 6, api.ErrStale, 0))
	checkStep(t, "the same", m, command(10, 7, good()), m, client(10, 7, api.OK, 3))

	entries := slices.Insert(three().Entries, 1, good().Entry)
	m.Version = top - 1
	executed(t, "the last version", m, changes(good()), entries)
	refused(t, "an error", m, changes(drop("", "no")), api.ErrKey)
	m = state(top, three().Entries, crowd(16)...)
	checkStep(t, "no room", m, command(5, 1, good()), m, client(5, 1, api.ErrFull, 0))
	empty := state(top, nil)
	checkStep(t, "no clients", empty, command(5, 1, good()), state(top, nil, client(5, 1, api.ErrFull, top)), client(5, 1, api.ErrFull, top))
}

// TestChangesOfNothing: P12.1 for changes that leave the catalog as it is: a version comes of them all the same.
func TestChangesOfNothing(t *testing.T) {
	m := three()
	executed(t, "the same pattern", m, changes(put("", "a", "A")), m.Entries)
	executed(t, "put and dropped", m, changes(good(), drop("", "good")), m.Entries)
	executed(t, "dropped and put", m, changes(drop("de", "m"), put("de", "m", "M")), m.Entries)
	executed(t, "all is gone", m, changes(drop("de", "m"), drop("", "a")), nil)
	executed(t, "all at once", m, changes(drop("de", "m"), put("", "b", "B"), put("", "a", "new"), put("en-GB", "z", "{n}")), list(entry("", "a", "new"), entry("", "b", "B"), entry("en-GB", "z", "{n}")))
}

// TestToldAgain: P12.1: a client's stored result is told again, whatever versions have come since; a later command replaces it.
func TestToldAgain(t *testing.T) {
	commands := []api.Command{
		command(1, 1, put("", "a", "1")),
		command(2, 4, drop("", "no")),
		command(2, 5, put("", "b", "2")),
		command(3, 1, put("", "a", "3")),
		command(2, 9, put("", "", "")),
		command(4, 2, drop("", "b")),
	}
	want := state(4, list(entry("", "a", "3")), client(1, 1, api.OK, 1), client(2, 9, api.ErrCatalog, 3), client(3, 1, api.OK, 3), client(4, 2, api.OK, 4))
	checkFold(t, "all", commands, want, api.OK)
	for i, result := range []api.Client{client(1, 1, api.OK, 1), client(2, 4, api.ErrStale, 0), client(2, 5, api.ErrStale, 0), client(3, 1, api.OK, 3), client(2, 9, api.ErrCatalog, 3), client(4, 2, api.OK, 4)} {
		checkDo(t, "told again", want, commands[i], want, result, api.OK)
		checkFold(t, "told again", append(slices.Clone(commands), commands[i]), want, api.OK)
	}
	checkFold(t, "all twice", append(slices.Clone(commands), commands...), want, api.OK)
	next := command(1, 2, put("", "a", "5"))
	after := state(5, list(entry("", "a", "5")), client(1, 2, api.OK, 5), want.Clients[1], want.Clients[2], want.Clients[3])
	checkStep(t, "the next one", want, next, after, client(1, 2, api.OK, 5))
	checkDo(t, "stale by now", after, commands[0], after, client(1, 1, api.ErrStale, 0), api.OK)
}

// TestFold: P12.1 for lists without commands, and with commands that are not valid at any place.
func TestFold(t *testing.T) {
	checkFold(t, "nil", nil, api.Model{}, api.OK)
	checkFold(t, "empty", []api.Command{}, api.Model{}, api.OK)
	l := []api.Command{command(1, 1, good()), command(2, 1, drop("", "no")), command(1, 2, drop("", "good")), command(1, 1, good())}
	checkFold(t, "valid ones", l, state(2, nil, client(1, 2, api.OK, 2), client(2, 1, api.ErrKey, 1)), api.OK)
	for _, wrong := range []api.Command{{}, command(0, 1, good()), command(1, 0, good()), command(1, 3), command(1, 1), command(9, 1, repeated(21, good())...), command(top+1, 1, good()), command(1, top+1, good()), command(-1, 1, good())} {
		for i := range len(l) + 1 {
			checkFold(t, "a wrong one", slices.Insert(slices.Clone(l), i, wrong), api.Model{}, api.ErrCommand)
		}
	}
	var many []api.Command
	for i := range 300 {
		many = append(many, command(i%20+1, i/20+1, put("", "k", "x")))
	}
	checkFoldDefined(t, "many", many)
	checkFold(t, "many, the last one wrong", append(many, command(1, 0, good())), api.Model{}, api.ErrCommand)
}

// TestDoAnswersNewMemory: what a call answers is not touched by a later one, nor the other way round.
func TestDoAnswersNewMemory(t *testing.T) {
	m := three()
	for _, c := range []api.Command{command(10, 7, good()), command(10, 6, good()), command(10, 8, good()), command(10, 8, drop("", "no")), command(15, 1, good()), command(15, 1, drop("", "no")), command(1, 1, drop("", "a"))} {
		want, _, _ := slowDo(m, c)
		first, _, _ := model.Do(m, c)
		second, _, _ := model.Do(m, c)
		third, _, _ := model.Do(second, command(10, 9, put("", "a", "later"), drop("de", "m")))
		scribbleModel(first)
		scribbleModel(third)
		if !sameModel(second, want) || !sameModel(m, three()) {
			t.Errorf("answers of Do of %s share their memory: %s", brief(c), brief(second))
		}
	}
}
