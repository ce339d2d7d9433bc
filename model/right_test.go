package model_test

import (
	"slices"
	"testing"

	"hornbook/api"
)

// checkModel: P12.1, P12.3, P12.4 for a model that is valid, or is not: then no function takes it.
func checkModel(t *testing.T, name string, m api.Model, valid bool) {
	t.Helper()
	checkRight(t, name, m, valid)
	checkModelDefined(t, name, m)
	checkDoDefined(t, name, m, command(1, 1, good()))
	if valid {
		return
	}
	for _, c := range []api.Command{command(1, 1, good()), command(10, 1, good()), command(10, 2, drop("", "no")), command(top, top, put("", "", "{"))} {
		checkDo(t, name, m, c, api.Model{}, api.Client{}, api.ErrArg)
	}
	checkPutModel(t, name, m, "", api.ErrArg)
	checkShow(t, name, m, api.Manifest{}, nil, api.ErrArg)
	if len(writtenModel(m)) <= 131072 {
		checkGetModel(t, name, writtenModel(m), api.Model{}, api.ErrArg)
	}
}

// checkCommand: P12.1, P12.2 for a command that is valid, or is not: then no function takes it.
func checkCommand(t *testing.T, name string, c api.Command, valid bool) {
	t.Helper()
	checkMay(t, name, c, valid)
	checkCommandDefined(t, name, c)
	checkFoldDefined(t, name, []api.Command{c})
	full := state(7, some(3), crowd(16)...)
	for _, m := range []api.Model{{}, full} {
		checkDoDefined(t, name, m, c)
		if !valid {
			checkDo(t, name, m, c, api.Model{}, api.Client{}, api.ErrArg)
		}
	}
	if valid {
		return
	}
	checkPutCommand(t, name, c, "", api.ErrCommand)
	right := command(1, 1, good())
	for i, l := range [][]api.Command{{c}, {c, right}, {right, c}, {right, c, command(1, 2, drop("", "good"))}, {c, c}} {
		checkFold(t, name+", list "+string(rune('1'+i)), l, api.Model{}, api.ErrCommand)
	}
	if len(writtenCommand(c)) <= 131072 {
		checkGetCommand(t, name, writtenCommand(c), api.Command{}, api.ErrCommand)
	}
}

// TestVersions: P12.1 for the edges of a model's Version.
func TestVersions(t *testing.T) {
	for _, version := range []int{0, 1, 2, 1000, top - 1, top} {
		checkModel(t, "a Version", state(version, nil), true)
		checkModel(t, "a Version", state(version, some(2), client(1, 1, 0, version)), true)
	}
	for _, version := range []int{-1, -2, -top, -1 << 62, -1 << 63, top + 1, 2 * top, 1 << 32, 1<<32 + 1, 1<<63 - 1} {
		checkModel(t, "a Version that is none", state(version, nil), false)
		checkModel(t, "a Version that is none", state(version, some(2), client(1, 1, 0, 0)), false)
		checkModel(t, "a Version that is none", state(version, nil, client(1, 1, 0, version)), false)
	}
}

// TestEntries: P12.1 for entries that are a catalog or none, or one whose encoding is too long.
func TestEntries(t *testing.T) {
	for _, l := range [][]api.Entry{nil, {}, some(1), some(2), some(199), some(200), list(entry("", "a", "")), list(entry("", "a", "{n, plural, other {#}}"), entry("de", "A", "x"), entry("de-CH", "-", "y"))} {
		checkModel(t, "a catalog", state(1, l), true)
		checkModel(t, "a catalog", state(0, l, crowd(3)...), true)
	}
	a, b := entry("", "a", "1"), entry("de", "a", "2")
	for name, l := range map[string][]api.Entry{
		"too many": some(201), "falling": list(b, a), "one twice": list(a, a), "one name twice": list(a, entry("", "a", "2")),
		"no key": list(entry("", "", "x")), "no pattern": list(entry("", "a", "{")), "no locale": list(entry("de-", "a", "x")), "the last one wrong": append(some(3), entry("zz", " ", "x")),
		"a long key": list(entry("", letters(33), "x")), "a long pattern": list(entry("", "a", letters(2001))), "zero": make([]api.Entry, 1),
	} {
		checkModel(t, name, state(1, l), false)
		checkModel(t, name, state(0, l, crowd(3)...), false)
	}
	for _, n := range []int{131000, 131071, 131072} {
		checkModel(t, "a long catalog", state(1, sized(t, n)), true)
		checkModel(t, "a long catalog", state(1, sized(t, n), crowd(16)...), true)
	}
	for _, n := range []int{131073, 131074, 132000, 150000} {
		checkModel(t, "a catalog that is too long", state(1, sized(t, n)), false)
		checkModel(t, "a catalog that is too long", state(1, sized(t, n), crowd(1)...), false)
	}
}

// TestClients: P12.1 for the number of clients and their order.
func TestClients(t *testing.T) {
	for n := range 17 {
		checkModel(t, "so many clients", state(3, some(2), crowd(n)...), true)
	}
	checkModel(t, "an empty list", state(3, some(2), []api.Client{}...), true)
	for _, n := range []int{17, 18, 100, 700} {
		checkModel(t, "too many clients", state(3, some(2), crowd(n)...), false)
		checkModel(t, "too many clients", state(3, nil, crowd(n)...), false)
	}
	for _, n := range []int{2, 3, 15, 16} {
		for i := range n - 1 {
			l := crowd(n)
			l[i], l[i+1] = l[i+1], l[i]
			checkModel(t, "falling", state(3, nil, l...), false)
			l = crowd(n)
			l[i+1].ID = l[i].ID
			checkModel(t, "one ID", state(3, nil, l...), false)
			l[i+1] = l[i]
			checkModel(t, "one client twice", state(3, nil, l...), false)
			l = crowd(n)
			l[i+1].ID = l[i].ID + 1
			checkModel(t, "side by side", state(3, nil, l...), true)
		}
		l := crowd(n)
		slices.Reverse(l)
		checkModel(t, "falling throughout", state(3, nil, l...), false)
		l = crowd(n)
		l[0], l[n-1] = l[n-1], l[0]
		checkModel(t, "the last one first", state(3, nil, l...), false)
	}
	checkModel(t, "same Seqs, falling Seqs", state(9, nil, client(1, 7, 0, 5), client(2, 7, 0, 5), client(3, 6, 0, 4)), true)
	checkModel(t, "the least and the greatest IDs", state(9, nil, client(1, 7, 0, 5), client(top, 7, 0, 5)), true)
}

// placed answers models in which a client stands alone, or has others around it.
func placed(version int, c api.Client) map[string]api.Model {
	low, high := client(1, 1, 0, 0), client(top, 1, 0, 0)
	models := map[string]api.Model{"alone": state(version, some(1), c)}
	if c.ID > low.ID && c.ID < high.ID {
		models["second"] = state(version, nil, low, c)
		models["first"] = state(version, nil, c, high)
		models["between"] = state(version, nil, low, c, high)
	}
	return models
}

func checkClient(t *testing.T, name string, version int, c api.Client, valid bool) {
	t.Helper()
	for where, m := range placed(version, c) {
		checkModel(t, name+", "+where, m, valid)
	}
}

// TestClient: P12.1 for the edges of each number of a client.
func TestClient(t *testing.T) {
	for _, n := range []int{1, 2, 3, 1000, top - 1, top} {
		checkClient(t, "an ID", 5, client(n, 1, 0, 0), true)
		checkClient(t, "a Seq", 5, client(7, n, 0, 0), true)
	}
	for _, n := range []int{0, -1, -top, -1 << 63, top + 1, 2 * top, 1<<32 + 1, 1<<63 - 1} {
		checkClient(t, "an ID that is none", 5, client(n, 1, 0, 0), false)
		checkClient(t, "a Seq that is none", 5, client(7, n, 0, 0), false)
	}
	for _, n := range []api.Errno{0, 1, 2, 60, 110, 121, 130, 240, 254, 255} {
		checkClient(t, "an Answer", 5, client(7, 1, n, 0), true)
	}
	for _, n := range []api.Errno{-1, -255, -1 << 63, 256, 257, 1000, top, 1<<32 + 1, 1<<63 - 1} {
		checkClient(t, "an Answer that is none", 5, client(7, 1, n, 0), false)
	}
	for _, version := range []int{0, 1, 5, top - 1, top} {
		for _, n := range []int{0, 1, 4, 5, version - 1, version} {
			if n >= 0 && n <= version {
				checkClient(t, "a client's Version", version, client(7, 1, 0, n), true)
			}
		}
		for _, n := range []int{-1, -version - 1, -1 << 63, version + 1, version + 2, top + 1, 1<<32 + version, 1<<63 - 1} {
			checkClient(t, "a client's Version that is none", version, client(7, 1, 0, n), false)
		}
	}
	checkClient(t, "nothing", 0, api.Client{}, false)
}

// repeated is so many changes.
func repeated(n int, change api.Change) []api.Change {
	return slices.Repeat([]api.Change{change}, n)
}

// TestCommands: P12.1, P12.2 for the number of changes, and the edges of a command's numbers.
func TestCommands(t *testing.T) {
	for n := range 30 {
		checkCommand(t, "so many changes", command(1, 1, repeated(n, good())...), n >= 1 && n <= 20)
		checkCommand(t, "so many drops", command(10, 1, repeated(n, drop("", "good"))...), n >= 1 && n <= 20)
	}
	checkCommand(t, "an empty list", command(1, 1, []api.Change{}...), false)
	checkCommand(t, "many changes", command(1, 1, repeated(700, good())...), false)
	for _, n := range []int{1, 2, 1000, top - 1, top} {
		checkCommand(t, "a Client", command(n, 1, good()), true)
		checkCommand(t, "a Seq", command(1, n, good()), true)
		checkCommand(t, "both", command(n, n, repeated(20, good())...), true)
		checkCommand(t, "no changes", command(n, n), false)
		checkCommand(t, "too many changes", command(n, n, repeated(21, good())...), false)
	}
	for _, n := range []int{0, -1, -top, -1 << 63, top + 1, 2 * top, 1<<32 + 1, 1<<63 - 1} {
		checkCommand(t, "a Client that is none", command(n, 1, good()), false)
		checkCommand(t, "a Seq that is none", command(1, n, good()), false)
		checkCommand(t, "both", command(n, n, good()), false)
	}
	checkCommand(t, "nothing", api.Command{}, false)
}

// oddChanges are such as no catalog takes.
func oddChanges() []api.Change {
	return []api.Change{
		{}, put("", "", ""), put("", "", "x"), put("-", "a", "x"), put("", "a", "{"), put("\x00\xff", "\n", "\x00"), put("", "a", letters(2001)), put(letters(33), letters(33), "x"), put("", letters(5000), ""),
		drop("", ""), drop("", "no"), dropping(entry("", "a", "x")), dropping(entry("de-", "", "{")), dropping(entry("", "", letters(9999))), put("l", "e", "i0e"),
	}
}

// TestOddChanges: P12.1, P12.2 for commands whose changes are wrong: they are valid all the same.
func TestOddChanges(t *testing.T) {
	for _, x := range oddChanges() {
		checkCommand(t, "odd", command(1, 1, x), true)
		checkCommand(t, "odd", command(1, 1, repeated(20, x)...), true)
		checkCommand(t, "odd", command(1, 1, good(), x, good()), true)
		checkCommand(t, "odd", command(1, 1, repeated(21, x)...), false)
		checkCommand(t, "odd", command(0, 1, x), false)
	}
	checkCommand(t, "all", command(3, 9, oddChanges()...), true)
}
