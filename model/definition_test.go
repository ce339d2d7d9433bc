package model_test

import (
	"fmt"
	"slices"
	"strconv"
	"strings"
	"testing"

	"hornbook/api"
	"hornbook/catalog"
	"hornbook/chunk"
	"hornbook/code"
	"hornbook/merkle"
	"hornbook/model"
)

const top = 1 << 30 // the greatest Version, ID and Seq

// entry is an entry, list lists them; put, drop and dropping are changes, right or wrong.
func entry(locale, key, pattern string) api.Entry {
	return api.Entry{Locale: locale, Key: key, Pattern: pattern}
}
func list(entries ...api.Entry) []api.Entry { return entries }
func put(locale, key, pattern string) api.Change {
	return api.Change{Entry: entry(locale, key, pattern)}
}
func drop(locale, key string) api.Change { return dropping(entry(locale, key, "")) }
func dropping(x api.Entry) api.Change    { return api.Change{Drop: true, Entry: x} }

// command, client and state are a command, a client and a model, right or wrong.
func command(client, seq int, changes ...api.Change) api.Command {
	return api.Command{Client: client, Seq: seq, Changes: changes}
}
func client(id, seq int, answer api.Errno, version int) api.Client {
	return api.Client{ID: id, Seq: seq, Answer: answer, Version: version}
}
func state(version int, entries []api.Entry, clients ...api.Client) api.Model {
	return api.Model{Version: version, Entries: entries, Clients: clients}
}

// good is a change that can be applied to every catalog that has room.
func good() api.Change { return put("", "good", "Good") }

func letters(n int) string { return strings.Repeat("x", n) }

// some is a catalog of so many small entries, crowd so many clients, with room ahead of them and between them.
func some(n int) []api.Entry {
	var l []api.Entry
	for i := range n {
		l = append(l, entry("de", "k"+strconv.Itoa(1000+i), "p"+strconv.Itoa(i)))
	}
	return l
}

func crowd(n int) []api.Client {
	var l []api.Client
	for i := range n {
		l = append(l, client(10*i+10, i+1, api.Errno(i), 0))
	}
	return l
}

// sized is a catalog whose encoding has so many bytes, about 2^17.
func sized(t testing.TB, n int) []api.Entry {
	t.Helper()
	l := some(80)
	for i := range l {
		l[i].Pattern = letters(1600)
	}
	for i, left := 0, n-len(writtenEntries(l)); left != 0; i++ {
		more := max(-600, min(400, left)) // so that each length has four digits
		l[i].Pattern = letters(1600 + more)
		left -= more
	}
	if len(writtenEntries(l)) != n || catalog.Right(l) != api.OK {
		t.Fatalf("%d bytes are not to be had", n)
	}
	return l
}

// within tells whether a number is one from lo to hi.
func within(n, lo, hi int) bool { return !(n < lo) && !(n > hi) }

// slowRight takes the definition of a valid model word by word; what catalog.Bytes answers is given.
func slowRight(m api.Model) bool {
	faults := 0
	fault := func(is bool) {
		if is {
			faults++
		}
	}
	_, e := catalog.Bytes(m.Entries)
	fault(e != api.OK)
	fault(!within(m.Version, 0, top))
	fault(len(m.Clients) >= 17)
	for i, c := range m.Clients {
		fault(!within(c.ID, 1, top))
		fault(!within(c.Seq, 1, top))
		fault(!within(int(c.Answer), 0, 255))
		fault(!within(c.Version, 0, m.Version))
		for _, earlier := range m.Clients[:i] {
			fault(!(earlier.ID < c.ID))
		}
	}
	return faults == 0
}

func slowMay(c api.Command) bool {
	return within(c.Client, 1, top) && within(c.Seq, 1, top) && within(len(c.Changes), 1, 20)
}

// slowDo keeps clients under their IDs, in no order; what catalog.Apply and catalog.Bytes answer is given.
func slowDo(m api.Model, c api.Command) (api.Model, api.Client, api.Errno) {
	if !slowRight(m) || !slowMay(c) {
		return api.Model{}, api.Client{}, 1
	}
	clients := map[int]api.Client{}
	for _, x := range m.Clients {
		clients[x.ID] = x
	}
	old, found := clients[c.Client]
	switch {
	case found && old.Seq == c.Seq:
		return m, old, 0
	case found && old.Seq > c.Seq:
		return m, client(c.Client, c.Seq, 121, 0), 0
	case !found && len(clients) == 16:
		return m, client(c.Client, c.Seq, 130, 0), 0
	}
	result := client(c.Client, c.Seq, 0, m.Version)
	next, e := catalog.Apply(m.Entries, c.Changes)
	if e == 0 {
		_, e = catalog.Bytes(next)
	}
	if result.Answer = e; e == 0 && m.Version == top {
		result.Answer = 130
	}
	if result.Answer == 0 {
		result.Version++
		m.Entries = next
	}
	m.Version = result.Version
	clients[c.Client] = result
	m.Clients = nil
	for _, x := range clients {
		m.Clients = append(m.Clients, x)
	}
	slices.SortFunc(m.Clients, func(a, b api.Client) int { return a.ID - b.ID })
	return m, result, 0
}

func slowFold(l []api.Command) (api.Model, api.Errno) {
	m := api.Model{}
	for _, c := range l {
		next, _, e := slowDo(m, c)
		if e != api.OK {
			return api.Model{}, 120
		}
		m = next
	}
	return m, 0
}

// The written functions answer what the definition of an encoding makes of what is right or wrong.
func writtenNumbers(l ...int) string {
	s := ""
	for _, n := range l {
		s += "i" + strconv.Itoa(n) + "e"
	}
	return s
}

func writtenTexts(x api.Entry) string {
	s := ""
	for _, text := range []string{x.Locale, x.Key, x.Pattern} {
		s += strconv.Itoa(len(text)) + ":" + text
	}
	return s
}

func writtenEntries(l []api.Entry) string {
	var b strings.Builder
	for _, x := range l {
		b.WriteString("l" + writtenTexts(x) + "e")
	}
	return "l" + b.String() + "e"
}

func writtenClients(l []api.Client) string {
	s := ""
	for _, c := range l {
		s += "l" + writtenNumbers(c.ID, c.Seq, int(c.Answer), c.Version) + "e"
	}
	return "l" + s + "e"
}

func writtenModel(m api.Model) string {
	return "l" + writtenNumbers(m.Version) + writtenEntries(m.Entries) + writtenClients(m.Clients) + "e"
}

func writtenCommand(c api.Command) string {
	var b strings.Builder
	for _, x := range c.Changes {
		b.WriteString("l" + writtenNumbers(map[bool]int{true: 1}[x.Drop]) + writtenTexts(x.Entry) + "e")
	}
	return "l" + writtenNumbers(c.Client, c.Seq) + b.String() + "e"
}

func slowPutCommand(c api.Command) (string, api.Errno) {
	if !slowMay(c) {
		return "", 120
	}
	return fitting(writtenCommand(c))
}

func slowPutModel(m api.Model) (string, api.Errno) {
	if !slowRight(m) {
		return "", 1
	}
	return fitting(writtenModel(m))
}

// fitting answers an encoding, if it is none that is too long.
func fitting(s string) (string, api.Errno) {
	if len(s) >= 131073 {
		return "", 2
	}
	return s, 0
}

// at answers the element at a place of a value, or one that is nothing.
func at(v api.Val, i int) api.Val {
	if i < len(v.L) {
		return v.L[i]
	}
	return api.Val{}
}

// behind answers the elements from a place on.
func behind(v api.Val, i int) []api.Val { return v.L[min(i, len(v.L)):] }

// slowGetCommand takes whatever stands where a command's parts do: the value has the form if they are written the same, as no two values are.
func slowGetCommand(s string) (api.Command, api.Errno) {
	v, e, _ := code.Get(s)
	if e != 0 {
		return api.Command{}, e
	}
	c := command(int(at(v, 0).N), int(at(v, 1).N))
	for _, x := range behind(v, 2) {
		c.Changes = append(c.Changes, api.Change{Drop: at(x, 0).N == 1, Entry: entry(at(x, 1).S, at(x, 2).S, at(x, 3).S)})
	}
	if writtenCommand(c) != s || !slowMay(c) {
		return api.Command{}, 120
	}
	return c, 0
}

func slowGetModel(s string) (api.Model, api.Errno) {
	v, e, _ := code.Get(s)
	if e != 0 {
		return api.Model{}, e
	}
	m := state(int(at(v, 0).N), nil)
	for _, x := range at(v, 1).L {
		m.Entries = append(m.Entries, entry(at(x, 0).S, at(x, 1).S, at(x, 2).S))
	}
	for _, x := range at(v, 2).L {
		m.Clients = append(m.Clients, client(int(at(x, 0).N), int(at(x, 1).N), api.Errno(at(x, 2).N), int(at(x, 3).N)))
	}
	if writtenModel(m) != s || !slowRight(m) {
		return api.Model{}, 1
	}
	return m, 0
}

// slowShow takes what catalog.Bytes, chunk.Texts, merkle.Leaf and merkle.Root answer as given.
func slowShow(m api.Model) (api.Manifest, []string, api.Errno) {
	if !slowRight(m) {
		return api.Manifest{}, nil, 1
	}
	s, _ := catalog.Bytes(m.Entries)
	x := api.Manifest{Version: m.Version, Size: len(s)}
	for _, text := range chunk.Texts(s) {
		x.Leaves = append(x.Leaves, merkle.Leaf(text))
	}
	x.Root, _ = merkle.Root(x.Leaves)
	return x, chunk.Texts(s), 0
}

// brief tells anything, as far as one can read on.
func brief(x any) string {
	s := strconv.Quote(fmt.Sprintf("%+v", x))
	if len(s) > 400 {
		return s[:400] + ".. (" + strconv.Itoa(len(s)) + ")"
	}
	return s
}

func sameModel(a, b api.Model) bool {
	return a.Version == b.Version && slices.Equal(a.Entries, b.Entries) && slices.Equal(a.Clients, b.Clients)
}

func sameCommand(a, b api.Command) bool {
	return a.Client == b.Client && a.Seq == b.Seq && slices.Equal(a.Changes, b.Changes)
}

func sameManifest(a, b api.Manifest) bool {
	return a.Version == b.Version && a.Size == b.Size && slices.Equal(a.Leaves, b.Leaves) && a.Root == b.Root
}

// guarded answers a slice that is the same, with room behind it that is written to, and a function that tells whether all of this is as it was.
func guarded[T comparable](l []T, mark T) ([]T, func() bool) {
	if l == nil {
		return nil, func() bool { return true }
	}
	all := slices.Concat(l, []T{mark, mark, mark})
	before := slices.Clone(all)
	return all[:len(l)], func() bool { return slices.Equal(all, before) }
}

func guardedModel(m api.Model) (api.Model, func() bool) {
	entries, entriesIntact := guarded(m.Entries, entry("mark", "mark", "mark"))
	clients, clientsIntact := guarded(m.Clients, client(-1, -1, -1, -1))
	return state(m.Version, entries, clients...), func() bool { return entriesIntact() && clientsIntact() }
}

func guardedCommand(c api.Command) (api.Command, func() bool) {
	changes, intact := guarded(c.Changes, put("mark", "mark", "mark"))
	return command(c.Client, c.Seq, changes...), intact
}

// scribble writes over all that an answer's list may write to: whatever shares memory with it is changed.
func scribble[T any](l []T) {
	var none T
	l = l[:cap(l)]
	for i := range l {
		l[i] = none
	}
}

func scribbleModel(m api.Model) {
	scribble(m.Entries)
	scribble(m.Clients)
}

func checkKept(t testing.TB, name string, intact func() bool) {
	t.Helper()
	if !intact() {
		t.Errorf("%s: an argument is changed", name)
	}
}

func checkRight(t testing.TB, name string, m api.Model, want bool) {
	t.Helper()
	a, intact := guardedModel(m)
	if got := model.Right(a); got != want {
		t.Errorf("%s: Right of %s answers %t", name, brief(m), got)
	}
	checkKept(t, name+": Right", intact)
}

func checkMay(t testing.TB, name string, c api.Command, want bool) {
	t.Helper()
	a, intact := guardedCommand(c)
	if got := model.May(a); got != want {
		t.Errorf("%s: May of %s answers %t", name, brief(c), got)
	}
	checkKept(t, name+": May", intact)
}

func checkDo(t testing.TB, name string, m api.Model, c api.Command, want api.Model, wantResult api.Client, wantErr api.Errno) {
	t.Helper()
	a, intact := guardedModel(m)
	b, unchanged := guardedCommand(c)
	got, result, e := model.Do(a, b)
	if !sameModel(got, want) || result != wantResult || e != wantErr {
		t.Errorf("%s: Do of %s to %s answers %s, %+v, %d, not %s, %+v, %d", name, brief(c), brief(m), brief(got), result, e, brief(want), wantResult, wantErr)
	}
	scribbleModel(got)
	checkKept(t, name+": Do", intact)
	checkKept(t, name+": Do, the command", unchanged)
}

func checkFold(t testing.TB, name string, l []api.Command, want api.Model, wantErr api.Errno) {
	t.Helper()
	var guards []func() bool
	a := slices.Clone(l)
	for i, c := range l {
		b, intact := guardedCommand(c)
		a[i] = b
		guards = append(guards, intact)
	}
	got, e := model.Fold(a)
	if !sameModel(got, want) || e != wantErr {
		t.Errorf("%s: Fold of %s answers %s, %d, not %s, %d", name, brief(l), brief(got), e, brief(want), wantErr)
	}
	scribbleModel(got)
	for i, intact := range guards {
		checkKept(t, name+": Fold", intact)
		if !sameCommand(a[i], l[i]) {
			t.Errorf("%s: Fold changes its argument", name)
		}
	}
}

func checkPutCommand(t testing.TB, name string, c api.Command, want string, wantErr api.Errno) {
	t.Helper()
	a, intact := guardedCommand(c)
	if got, e := model.PutCommand(a); got != want || e != wantErr {
		t.Errorf("%s: PutCommand of %s answers %s, %d, not %s, %d", name, brief(c), brief(got), e, brief(want), wantErr)
	}
	checkKept(t, name+": PutCommand", intact)
}

func checkGetCommand(t testing.TB, name, s string, want api.Command, wantErr api.Errno) {
	t.Helper()
	if got, e := model.GetCommand(s); !sameCommand(got, want) || e != wantErr {
		t.Errorf("%s: GetCommand of %s answers %s, %d, not %s, %d", name, brief(s), brief(got), e, brief(want), wantErr)
	}
}

func checkPutModel(t testing.TB, name string, m api.Model, want string, wantErr api.Errno) {
	t.Helper()
	a, intact := guardedModel(m)
	if got, e := model.PutModel(a); got != want || e != wantErr {
		t.Errorf("%s: PutModel of %s answers %s, %d, not %s, %d", name, brief(m), brief(got), e, brief(want), wantErr)
	}
	checkKept(t, name+": PutModel", intact)
}

func checkGetModel(t testing.TB, name, s string, want api.Model, wantErr api.Errno) {
	t.Helper()
	if got, e := model.GetModel(s); !sameModel(got, want) || e != wantErr {
		t.Errorf("%s: GetModel of %s answers %s, %d, not %s, %d", name, brief(s), brief(got), e, brief(want), wantErr)
	}
}

func checkShow(t testing.TB, name string, m api.Model, want api.Manifest, wantChunks []string, wantErr api.Errno) {
	t.Helper()
	a, intact := guardedModel(m)
	got, chunks, e := model.Show(a)
	if !sameManifest(got, want) || !slices.Equal(chunks, wantChunks) || e != wantErr {
		t.Errorf("%s: Show of %s answers %s, %s, %d, not %s, %s, %d", name, brief(m), brief(got), brief(chunks), e, brief(want), brief(wantChunks), wantErr)
	}
	checkKept(t, name+": Show", intact)
	scribble(got.Leaves)
	if !slices.Equal(chunks, wantChunks) {
		t.Errorf("%s: the lists that Show answers share their memory", name)
	}
}

// checkModelDefined holds what the package answers of a model alone against the chapter's words.
func checkModelDefined(t testing.TB, name string, m api.Model) {
	t.Helper()
	checkRight(t, name, m, slowRight(m))
	s, e := slowPutModel(m)
	checkPutModel(t, name, m, s, e)
	checkGetModelDefined(t, name, writtenModel(m))
	x, chunks, e := slowShow(m)
	checkShow(t, name, m, x, chunks, e)
}

// checkCommandDefined does so for a command.
func checkCommandDefined(t testing.TB, name string, c api.Command) {
	t.Helper()
	checkMay(t, name, c, slowMay(c))
	s, e := slowPutCommand(c)
	checkPutCommand(t, name, c, s, e)
	checkGetCommandDefined(t, name, writtenCommand(c))
}

func checkGetCommandDefined(t testing.TB, name, s string) {
	t.Helper()
	c, e := slowGetCommand(s)
	checkGetCommand(t, name, s, c, e)
}

func checkGetModelDefined(t testing.TB, name, s string) {
	t.Helper()
	m, e := slowGetModel(s)
	checkGetModel(t, name, s, m, e)
}

func checkDoDefined(t testing.TB, name string, m api.Model, c api.Command) {
	t.Helper()
	want, result, e := slowDo(m, c)
	checkDo(t, name, m, c, want, result, e)
}

func checkFoldDefined(t testing.TB, name string, l []api.Command) {
	t.Helper()
	m, e := slowFold(l)
	checkFold(t, name, l, m, e)
}
