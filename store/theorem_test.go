package store_test

import (
	"math/rand"
	"strconv"
	"testing"

	"hornbook/api"
	"hornbook/store"
)

// run is a store that calls were made on since it was empty, with what they should have come to.
type run struct {
	s     api.Store
	refs  map[string]int // by body: how often it was put, less how often it was dropped
	there map[string]int // by body: 1 if it was put and not swept since
}

func started() run { return run{refs: map[string]int{}, there: map[string]int{}} }

// forked answers a run that goes its own way from here on.
func (r run) forked() run {
	out := started()
	out.s = r.s
	for body, n := range r.refs {
		out.refs[body] = n
	}
	for body := range r.there {
		out.there[body] = 1
	}
	return out
}

func (r *run) put(t *testing.T, body string) {
	t.Helper()
	want := api.OK
	if r.there[body] == 0 && len(r.there) == 4096 {
		want = api.ErrFull
	}
	next, key, e := store.Put(r.s, body)
	if e != want {
		t.Fatalf("Put of %q into %s answers %d, not %d", body, short(r.s), e, want)
	}
	if e != api.OK {
		return
	}
	if key != leaf(body) {
		t.Fatalf("Put of %q answers the key %q", body, key)
	}
	r.s = next
	r.refs[body]++
	r.there[body] = 1
}

func (r *run) drop(t *testing.T, body string) {
	t.Helper()
	want := api.OK
	if r.refs[body] == 0 {
		want = api.ErrKey
	}
	next, e := store.Drop(r.s, leaf(body))
	if e != want {
		t.Fatalf("Drop of %q from %s answers %d, not %d", body, short(r.s), e, want)
	}
	if e == api.OK {
		r.s = next
		r.refs[body]--
	}
}

func (r *run) sweep(t *testing.T) {
	t.Helper()
	next, e := store.Sweep(r.s)
	if e != api.OK {
		t.Fatalf("Sweep of %s answers %d", short(r.s), e)
	}
	r.s = next
	for body, n := range r.refs {
		if n == 0 {
			delete(r.there, body)
		}
	}
}

// checkRun: P6.5: no item is corrupt, each has its count, and all that is held is found.
func checkRun(t *testing.T, r run) {
	t.Helper()
	if !store.Right(r.s) || len(store.Rotten(r.s)) > 0 {
		t.Fatalf("%s is not valid or has corrupt items", short(r.s))
	}
	if len(r.s.Items) != len(r.there) {
		t.Fatalf("%s has not %d items", short(r.s), len(r.there))
	}
	for _, x := range r.s.Items {
		if x.Key != leaf(x.Body) || r.there[x.Body] == 0 || x.Refs != r.refs[x.Body] {
			t.Fatalf("%s has %q with %d references, not %d", short(r.s), x.Body, x.Refs, r.refs[x.Body])
		}
	}
	for body, n := range r.refs {
		got, e := store.Get(r.s, leaf(body))
		if n > 0 && (got != body || e != api.OK) {
			t.Fatalf("Get of %q, which is held, answers %q, %d", body, got, e)
		}
		if r.there[body] == 0 && (got != "" || e != api.ErrKey) {
			t.Fatalf("Get of %q, which is swept, answers %q, %d", body, got, e)
		}
	}
}

// TestAllSequences: P6.5 for each sequence of up to six calls with three bodies.
func TestAllSequences(t *testing.T) {
	bodies := []string{"a", "b", "c"}
	var follow func(r run, left int)
	follow = func(r run, left int) {
		checkRun(t, r)
		if left == 0 {
			return
		}
		for _, body := range bodies {
			next := r.forked()
			next.put(t, body)
			follow(next, left-1)
			next = r.forked()
			next.drop(t, body)
			follow(next, left-1)
		}
		next := r.forked()
		next.sweep(t)
		follow(next, left-1)
	}
	length := 6
	if testing.Short() {
		length = 4
	}
	follow(started(), length)
}

// TestLongSequences: P6.5 for long sequences of many bodies, of all lengths that may be.
func TestLongSequences(t *testing.T) {
	for seed := range 20 {
		random := rand.New(rand.NewSource(int64(seed)))
		var bodies []string
		for i := range 1 + seed*seed {
			bodies = append(bodies, strconv.Itoa(i)+text(random.Intn(508)))
		}
		r := started()
		for i := range 1500 {
			body := bodies[random.Intn(len(bodies))]
			switch n := random.Intn(100); {
			case n == 0:
				r.sweep(t)
			case n < 50:
				r.put(t, body)
			default:
				r.drop(t, body)
			}
			if i%50 == 0 {
				checkRun(t, r)
			}
		}
		checkRun(t, r)
	}
}

// TestFilled: P6.5 for a store that is filled, refuses what is new, and takes it once there is room.
func TestFilled(t *testing.T) {
	r := started()
	for i := range 4096 {
		r.put(t, strconv.Itoa(i))
	}
	checkRun(t, r)
	for i := range 10 {
		r.put(t, "new "+strconv.Itoa(i))
		r.put(t, strconv.Itoa(i))
	}
	checkRun(t, r)
	for i := range 20 {
		r.drop(t, strconv.Itoa(i))
	}
	// What is dropped still takes its place, until it is swept.
	r.put(t, "new")
	r.put(t, "15")
	checkRun(t, r)
	r.sweep(t)
	checkRun(t, r)
	for i := range 10 {
		r.put(t, "new "+strconv.Itoa(i))
	}
	checkRun(t, r)
}

// storeOf reads any bytes as a store: mostly a valid one, with items whole or corrupt, and now and then one that is not.
func storeOf(data string) api.Store {
	var items []api.Item
	for len(data) >= 3 {
		kind, body, refs := data[0], data[1:1+data[0]%2+1], int(data[2])-3
		data = data[3:]
		x := whole(body, max(0, refs))
		switch kind >> 3 {
		case 0:
			x.Body += "."
		case 1:
			x.Refs = refs
		case 2:
			x.Refs = most - 1 + refs%4
		case 3:
			x.Key = x.Key[:31]
		case 4:
			x.Body = text(int(data0(data)) * 4)
		}
		items = append(items, x)
	}
	s := sorted(items...)
	if len(items) > 0 && items[0].Refs%16 == 15 {
		return listed(items...)
	}
	return s
}

// data0 answers the first byte, if there is one.
func data0(data string) byte {
	if data == "" {
		return 0
	}
	return data[0]
}

// FuzzStore: P6.1 to P6.4 for stores of any kind, against the chapter's words; and P6.5 for the calls that the bytes tell.
func FuzzStore(f *testing.F) {
	f.Add("", "a", "k")
	f.Add("\xf0ab\xf0cd\xf0ef", "a", leaf("b"))
	f.Add("\x00ab\x08cd\x10ef\x18gh\x20ij", "a.", leaf("e"))
	f.Add("\xf1ab\xf1ab", "ab", leaf("ab"))
	f.Fuzz(func(t *testing.T, data, body, key string) {
		s := storeOf(data)
		bodies, keys := []string{body}, []string{key, leaf(body)}
		for _, x := range s.Items {
			bodies, keys = append(bodies, x.Body), append(keys, x.Key)
		}
		checkDefined(t, "any", s, bodies, keys)
		r := started()
		for i := range len(data) {
			switch b := strconv.Itoa(int(data[i]) % 11); data[i] >> 5 {
			case 0:
				r.sweep(t)
			case 1, 2, 3:
				r.drop(t, b)
			default:
				r.put(t, b)
			}
		}
		checkRun(t, r)
	})
}
