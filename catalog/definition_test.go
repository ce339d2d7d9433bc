package catalog_test

import (
	"regexp"
	"slices"
	"strconv"
	"strings"
	"testing"

	"hornbook/api"
	"hornbook/catalog"
	"hornbook/code"
	"hornbook/format"
	"hornbook/pattern"
)

// entry is an entry, right or wrong; list lists them.
func entry(locale, key, pattern string) api.Entry {
	return api.Entry{Locale: locale, Key: key, Pattern: pattern}
}
func list(entries ...api.Entry) []api.Entry { return entries }

// put and drop are changes; dropping is a drop with an entry, right or wrong; changes lists them.
func put(locale, key, pattern string) api.Change {
	return api.Change{Entry: entry(locale, key, pattern)}
}
func drop(locale, key string) api.Change      { return dropping(entry(locale, key, "")) }
func dropping(e api.Entry) api.Change         { return api.Change{Drop: true, Entry: e} }
func changes(list ...api.Change) []api.Change { return list }

// number and word are arguments; with lists them.
func number(name string, n int64) api.Arg { return api.Arg{Name: name, IsNum: true, N: n} }
func word(name, s string) api.Arg         { return api.Arg{Name: name, S: s} }
func with(args ...api.Arg) []api.Arg      { return args }

// letters is a text of so many bytes; then joins lists in a new one; at is a list in which one entry is another.
func letters(n int) string         { return strings.Repeat("x", n) }
func then[T any](lists ...[]T) []T { return slices.Concat(lists...) }
func at(l []api.Entry, i int, e api.Entry) []api.Entry {
	l = slices.Clone(l)
	l[i] = e
	return l
}

// key is that of the entry number i of some.
func key(i int) string { return "k" + strconv.Itoa(1000+i) }

// some is a catalog of so many entries, a third of them of each of three locales.
func some(n int) []api.Entry {
	var l []api.Entry
	for i := range n {
		l = append(l, entry([]string{"", "de", "de-CH"}[3*i/n], key(i), "p"+strconv.Itoa(i)))
	}
	return l
}

// sorted answers entries in the order of a catalog: neither a locale nor a key has a zero byte.
func sorted(l []api.Entry) []api.Entry {
	l = slices.Clone(l)
	slices.SortStableFunc(l, func(a, b api.Entry) int {
		return strings.Compare(a.Locale+"\x00"+a.Key, b.Locale+"\x00"+b.Key)
	})
	return l
}

// What is empty is no locale, and yet may stand for one.
var (
	aLocale = regexp.MustCompile(`\A([a-zA-Z0-9]+)(-[a-zA-Z0-9]+)*\z|\A\z`)
	aKey    = regexp.MustCompile(`\A[a-zA-Z0-9._-]{1,32}\z`)
)

func slowLocale(s string) bool { return len(s) < 33 && aLocale.MatchString(s) }

// slowEntry takes the definition of a valid entry word by word; what pattern.Parse answers is given.
func slowEntry(x api.Entry) bool {
	_, e, _ := pattern.Parse(x.Pattern)
	return slowLocale(x.Locale) && aKey.MatchString(x.Key) && e == api.OK
}

func slowRight(l []api.Entry) api.Errno {
	if len(l) >= 201 {
		return api.ErrLong
	}
	for i, b := range l {
		for _, a := range l[:i] {
			if !(a.Locale < b.Locale || a.Locale == b.Locale && a.Key < b.Key) {
				return api.ErrCatalog
			}
		}
		if !slowEntry(b) {
			return api.ErrCatalog
		}
	}
	return api.OK
}

// slowApply keeps patterns under their names, in no order.
func slowApply(l []api.Entry, changes []api.Change) ([]api.Entry, api.Errno) {
	if e := slowRight(l); e != api.OK {
		return nil, e
	}
	if len(changes) >= 21 {
		return nil, api.ErrLong
	}
	there := map[[2]string]api.Entry{}
	for _, x := range l {
		there[[2]string{x.Locale, x.Key}] = x
	}
	for _, c := range changes {
		name := [2]string{c.Locale, c.Key}
		_, found := there[name]
		switch {
		case c.Drop && c.Pattern != "" || !c.Drop && !slowEntry(c.Entry):
			return nil, api.ErrCatalog
		case c.Drop && !found:
			return nil, api.ErrKey
		case c.Drop:
			delete(there, name)
		default:
			there[name] = c.Entry
		}
		if len(there) >= 201 {
			return nil, api.ErrLong
		}
	}
	var out []api.Entry
	for _, x := range there {
		out = append(out, x)
	}
	return sorted(out), api.OK
}

// written answers what the definition of an encoding makes of entries, right or wrong.
func written(l []api.Entry) string {
	var b strings.Builder
	b.WriteString("l")
	for _, x := range l {
		b.WriteString("l")
		for _, s := range []string{x.Locale, x.Key, x.Pattern} {
			b.WriteString(strconv.Itoa(len(s)) + ":" + s)
		}
		b.WriteString("e")
	}
	return b.String() + "e"
}

func slowBytes(l []api.Entry) (string, api.Errno) {
	if e := slowRight(l); e != api.OK {
		return "", e
	}
	s := written(l)
	if len(s) >= 131073 {
		return "", api.ErrLong
	}
	return s, api.OK
}

// slowParse takes whatever texts a value has where those of entries are: it has the form if they are written the same, as no two values are.
func slowParse(s string) ([]api.Entry, api.Errno) {
	v, e, _ := code.Get(s)
	if e != api.OK {
		return nil, e
	}
	var l []api.Entry
	for _, x := range v.L {
		texts := append(x.L, make([]api.Val, 3)...)
		l = append(l, entry(texts[0].S, texts[1].S, texts[2].S))
	}
	if written(l) != s {
		return nil, api.ErrCatalog
	}
	if e := slowRight(l); e != api.OK {
		return nil, e
	}
	return l, api.OK
}

// slowFind weighs all entries: of those whose Locale begins the locale, up to a dash or its end, the longest counts.
func slowFind(l []api.Entry, locale, key string) (api.Entry, api.Errno) {
	if e := slowRight(l); e != api.OK {
		return api.Entry{}, e
	}
	best := -1
	for i, x := range l {
		elder := x.Locale == "" || strings.HasPrefix(locale+"-", x.Locale+"-")
		if slowLocale(locale) && elder && x.Key == key && (best < 0 || len(x.Locale) > len(l[best].Locale)) {
			best = i
		}
	}
	if best < 0 {
		return api.Entry{}, api.ErrKey
	}
	return l[best], api.OK
}

// slowSay takes what format.Format answers as given.
func slowSay(l []api.Entry, locale, key string, args []api.Arg) (string, api.Errno) {
	x, e := slowFind(l, locale, key)
	if e != api.OK {
		return "", e
	}
	parts, _, _ := pattern.Parse(x.Pattern)
	return format.Format(parts, aLocale.FindStringSubmatch(x.Locale)[1], args)
}

// brief tells entries, a text or changes, as far as one can read on.
func brief(l any) string {
	s := ""
	switch l := l.(type) {
	case string:
		s = strconv.Quote(l)
	case []api.Entry:
		for _, x := range l {
			s += "{" + strconv.Quote(x.Locale) + " " + strconv.Quote(x.Key) + " " + strconv.Quote(x.Pattern) + "}"
		}
	case []api.Change:
		for _, c := range l {
			s += map[bool]string{true: "drop", false: "put"}[c.Drop] + brief(list(c.Entry))
		}
	}
	if len(s) > 300 {
		return s[:300] + ".. (" + strconv.Itoa(len(s)) + ")"
	}
	return s
}

// guarded answers a slice that is the same, with room behind it that is written to, and a function that tells whether all of this is as it was.
func guarded[T comparable](l []T, mark T) ([]T, func() bool) {
	if l == nil {
		return nil, func() bool { return true }
	}
	all := then(l, []T{mark, mark, mark})
	before := slices.Clone(all)
	return all[:len(l)], func() bool { return slices.Equal(all, before) }
}

func guardedEntries(l []api.Entry) ([]api.Entry, func() bool) {
	return guarded(l, entry("mark", "mark", "mark"))
}

func checkKept(t testing.TB, name string, intact func() bool) {
	t.Helper()
	if !intact() {
		t.Errorf("%s: the argument is changed", name)
	}
}

func checkRight(t testing.TB, name string, l []api.Entry, want api.Errno) {
	t.Helper()
	a, intact := guardedEntries(l)
	if e := catalog.Right(a); e != want {
		t.Errorf("%s: Right of %s answers %d, not %d", name, brief(l), e, want)
	}
	checkKept(t, name+": Right", intact)
}

func checkApply(t testing.TB, name string, l []api.Entry, c []api.Change, want []api.Entry, wantErr api.Errno) {
	t.Helper()
	a, intact := guardedEntries(l)
	b, unchanged := guarded(c, put("mark", "mark", "mark"))
	if got, e := catalog.Apply(a, b); !slices.Equal(got, want) || e != wantErr {
		t.Errorf("%s: Apply of %s to %s answers %s, %d, not %s, %d", name, brief(c), brief(l), brief(got), e, brief(want), wantErr)
	}
	checkKept(t, name+": Apply", intact)
	checkKept(t, name+": Apply, the changes", unchanged)
}

func checkBytes(t testing.TB, name string, l []api.Entry, want string, wantErr api.Errno) {
	t.Helper()
	a, intact := guardedEntries(l)
	if got, e := catalog.Bytes(a); got != want || e != wantErr {
		t.Errorf("%s: Bytes of %s answers %s, %d, not %s, %d", name, brief(l), brief(got), e, brief(want), wantErr)
	}
	checkKept(t, name+": Bytes", intact)
}

func checkParse(t testing.TB, name, s string, want []api.Entry, wantErr api.Errno) {
	t.Helper()
	if got, e := catalog.Parse(s); !slices.Equal(got, want) || e != wantErr {
		t.Errorf("%s: Parse of %s answers %s, %d, not %s, %d", name, brief(s), brief(got), e, brief(want), wantErr)
	}
}

func checkFind(t testing.TB, name string, l []api.Entry, locale, key string, want api.Entry, wantErr api.Errno) {
	t.Helper()
	a, intact := guardedEntries(l)
	if got, e := catalog.Find(a, locale, key); got != want || e != wantErr {
		t.Errorf("%s: Find of %s, %s in %s answers %s, %d, not %s, %d", name, brief(locale), brief(key), brief(l), brief(list(got)), e, brief(list(want)), wantErr)
	}
	checkKept(t, name+": Find", intact)
}

func checkSay(t testing.TB, name string, l []api.Entry, locale, key string, args []api.Arg, want string, wantErr api.Errno) {
	t.Helper()
	a, intact := guardedEntries(l)
	b, unchanged := guarded(args, word("mark", "mark"))
	if got, e := catalog.Say(a, locale, key, b); got != want || e != wantErr {
		t.Errorf("%s: Say of %s, %s in %s answers %s, %d, not %s, %d", name, brief(locale), brief(key), brief(l), brief(got), e, brief(want), wantErr)
	}
	checkKept(t, name+": Say", intact)
	checkKept(t, name+": Say, the arguments", unchanged)
}

// checkListDefined holds what the package answers of a list alone against the chapter's words.
func checkListDefined(t testing.TB, name string, l []api.Entry) {
	t.Helper()
	checkRight(t, name, l, slowRight(l))
	s, e := slowBytes(l)
	checkBytes(t, name, l, s, e)
	checkParseDefined(t, name, written(l))
}

func checkParseDefined(t testing.TB, name, s string) {
	t.Helper()
	l, e := slowParse(s)
	checkParse(t, name, s, l, e)
}

func checkApplyDefined(t testing.TB, name string, l []api.Entry, c []api.Change) {
	t.Helper()
	want, e := slowApply(l, c)
	checkApply(t, name, l, c, want, e)
}

func checkFindDefined(t testing.TB, name string, l []api.Entry, locale, key string, args []api.Arg) {
	t.Helper()
	x, e := slowFind(l, locale, key)
	checkFind(t, name, l, locale, key, x, e)
	s, e := slowSay(l, locale, key, args)
	checkSay(t, name, l, locale, key, args, s, e)
}
