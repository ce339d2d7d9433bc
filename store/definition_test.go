package store_test

import (
	"bytes"
	"cmp"
	"crypto/sha256"
	"slices"
	"strconv"
	"strings"
	"testing"

	"hornbook/api"
	"hornbook/store"
)

// most is the greatest count of references, 2^30.
const most = 1073741824

// leaf is the key of a body, as the library of the language works it out.
func leaf(body string) string {
	d := sha256.Sum256([]byte("\x00" + body))
	return string(d[:])
}

// whole is an item that is not corrupt.
func whole(body string, refs int) api.Item { return api.Item{Key: leaf(body), Body: body, Refs: refs} }

// under is an item with any key, most likely a corrupt one.
func under(key, body string, refs int) api.Item { return api.Item{Key: key, Body: body, Refs: refs} }

// listed is a store with its items as they are given, right or wrong.
func listed(items ...api.Item) api.Store { return api.Store{Items: items} }

// sorted is a store with its items in the order of their keys.
func sorted(items ...api.Item) api.Store {
	items = slices.Clone(items)
	slices.SortFunc(items, func(a, b api.Item) int { return cmp.Compare(a.Key, b.Key) })
	return api.Store{Items: items}
}

// some is a store of the bodies "0" to n - 1, each held once.
func some(n int) api.Store {
	var items []api.Item
	for i := range n {
		items = append(items, whole(strconv.Itoa(i), 1))
	}
	return sorted(items...)
}

// with is a store in which one item is another.
func with(s api.Store, at int, item api.Item) api.Store {
	s.Items = slices.Clone(s.Items)
	s.Items[at] = item
	return s
}

// text is so many bytes.
func text(n int) string { return strings.Repeat("x", n) }

// slowRight takes the definition of a valid store word by word.
func slowRight(s api.Store) bool {
	for i, x := range s.Items {
		if len(x.Key) != 32 || len(x.Body) < 1 || len(x.Body) > 512 || x.Refs < 0 || x.Refs > most {
			return false
		}
		if i > 0 && bytes.Compare([]byte(s.Items[i-1].Key), []byte(x.Key)) != -1 {
			return false
		}
	}
	return len(s.Items) <= 4096
}

func slowRotten(s api.Store) []string {
	if !slowRight(s) {
		return nil
	}
	var keys []string
	for _, x := range s.Items {
		if x.Key != leaf(x.Body) {
			keys = append(keys, x.Key)
		}
	}
	return keys
}

// slowFind goes through all items.
func slowFind(s api.Store, key string) int {
	return slices.IndexFunc(s.Items, func(x api.Item) bool { return x.Key == key })
}

func slowPut(s api.Store, body string) (api.Store, string, api.Errno) {
	if !slowRight(s) || len(body) == 0 {
		return api.Store{}, "", api.ErrArg
	}
	if len(body) > 512 {
		return api.Store{}, "", api.ErrLong
	}
	key := leaf(body)
	at := slowFind(s, key)
	if at < 0 {
		if len(s.Items) == 4096 {
			return api.Store{}, "", api.ErrFull
		}
		return sorted(append(slices.Clone(s.Items), whole(body, 1))...), key, api.OK
	}
	x := s.Items[at]
	if leaf(x.Body) != key {
		return api.Store{}, "", api.ErrRot
	}
	if x.Refs == most {
		return api.Store{}, "", api.ErrFull
	}
	return with(s, at, whole(x.Body, x.Refs+1)), key, api.OK
}

func slowDrop(s api.Store, key string) (api.Store, api.Errno) {
	if !slowRight(s) {
		return api.Store{}, api.ErrArg
	}
	at := slowFind(s, key)
	if at < 0 || s.Items[at].Refs == 0 {
		return api.Store{}, api.ErrKey
	}
	x := s.Items[at]
	return with(s, at, under(x.Key, x.Body, x.Refs-1)), api.OK
}

func slowSweep(s api.Store) (api.Store, api.Errno) {
	if !slowRight(s) {
		return api.Store{}, api.ErrArg
	}
	return listed(slices.DeleteFunc(slices.Clone(s.Items), func(x api.Item) bool { return x.Refs == 0 })...), api.OK
}

func slowGet(s api.Store, key string) (string, api.Errno) {
	if !slowRight(s) {
		return "", api.ErrArg
	}
	at := slowFind(s, key)
	if at < 0 {
		return "", api.ErrKey
	}
	if leaf(s.Items[at].Body) != key {
		return "", api.ErrRot
	}
	return s.Items[at].Body, api.OK
}

func same(a, b api.Store) bool { return slices.Equal(a.Items, b.Items) }

// short tells a store: all of a small one, the number of items of a great one.
func short(s api.Store) string {
	if len(s.Items) > 5 {
		return strconv.Itoa(len(s.Items)) + " items"
	}
	var b strings.Builder
	for _, x := range s.Items {
		b.WriteString("{" + strconv.Quote(x.Key) + " " + strconv.Quote(x.Body) + " " + strconv.Itoa(x.Refs) + "}")
	}
	return "{" + b.String() + "}"
}

// guarded answers a store that is the same, with room behind its items that is written to, and a function that tells whether all of this is as it was.
func guarded(s api.Store) (api.Store, func() bool) {
	if s.Items == nil {
		return s, func() bool { return true }
	}
	marks := slices.Repeat([]api.Item{under("mark", "mark", -7)}, 3)
	all := slices.Concat(s.Items, marks)
	before := slices.Clone(all)
	return listed(all[:len(s.Items)]...), func() bool { return slices.Equal(all, before) }
}

// scribble writes all over the memory of an answer, to show whose it is.
func scribble(s api.Store) {
	items := s.Items[:cap(s.Items)]
	for i := range items {
		items[i] = under("scribble", "scribble", -9)
	}
}

// checkKept looks at the argument of a call once behind it, and once more when the answer has been written over.
func checkKept(t *testing.T, name string, intact func() bool, answer api.Store) {
	t.Helper()
	if !intact() {
		t.Errorf("%s: the argument is changed", name)
	}
	scribble(answer)
	if !intact() {
		t.Errorf("%s: the answer shares its memory with the argument", name)
	}
}

func checkRight(t *testing.T, name string, s api.Store, want bool) {
	t.Helper()
	a, intact := guarded(s)
	if got := store.Right(a); got != want {
		t.Errorf("%s: Right of %s is %t", name, short(s), got)
	}
	checkKept(t, name+": Right", intact, api.Store{})
}

func checkRotten(t *testing.T, name string, s api.Store, want ...string) {
	t.Helper()
	a, intact := guarded(s)
	if got := store.Rotten(a); !slices.Equal(got, want) {
		t.Errorf("%s: Rotten of %s is %q, not %q", name, short(s), got, want)
	}
	checkKept(t, name+": Rotten", intact, api.Store{})
}

func checkPut(t *testing.T, name string, s api.Store, body string, want api.Store, wantKey string, wantErr api.Errno) {
	t.Helper()
	a, intact := guarded(s)
	got, key, e := store.Put(a, body)
	if !same(got, want) || key != wantKey || e != wantErr {
		t.Errorf("%s: Put of %.40q into %s answers %s, %q, %d, not %s, %q, %d", name, body, short(s), short(got), key, e, short(want), wantKey, wantErr)
	}
	checkKept(t, name+": Put", intact, got)
}

func checkDrop(t *testing.T, name string, s api.Store, key string, want api.Store, wantErr api.Errno) {
	t.Helper()
	a, intact := guarded(s)
	got, e := store.Drop(a, key)
	if !same(got, want) || e != wantErr {
		t.Errorf("%s: Drop of %q from %s answers %s, %d, not %s, %d", name, key, short(s), short(got), e, short(want), wantErr)
	}
	checkKept(t, name+": Drop", intact, got)
}

func checkSweep(t *testing.T, name string, s api.Store, want api.Store, wantErr api.Errno) {
	t.Helper()
	a, intact := guarded(s)
	got, e := store.Sweep(a)
	if !same(got, want) || e != wantErr {
		t.Errorf("%s: Sweep of %s answers %s, %d, not %s, %d", name, short(s), short(got), e, short(want), wantErr)
	}
	checkKept(t, name+": Sweep", intact, got)
}

func checkGet(t *testing.T, name string, s api.Store, key, want string, wantErr api.Errno) {
	t.Helper()
	a, intact := guarded(s)
	if got, e := store.Get(a, key); got != want || e != wantErr {
		t.Errorf("%s: Get of %q from %s answers %.40q, %d, not %.40q, %d", name, key, short(s), got, e, want, wantErr)
	}
	checkKept(t, name+": Get", intact, api.Store{})
}

// checkDefined holds all that the package answers of a store against the chapter's words.
func checkDefined(t *testing.T, name string, s api.Store, bodies, keys []string) {
	t.Helper()
	checkRight(t, name, s, slowRight(s))
	checkRotten(t, name, s, slowRotten(s)...)
	swept, e := slowSweep(s)
	checkSweep(t, name, s, swept, e)
	for _, body := range bodies {
		put, key, e := slowPut(s, body)
		checkPut(t, name, s, body, put, key, e)
	}
	for _, key := range keys {
		dropped, e := slowDrop(s, key)
		checkDrop(t, name, s, key, dropped, e)
		body, e := slowGet(s, key)
		checkGet(t, name, s, key, body, e)
	}
}
