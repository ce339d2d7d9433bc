package model_test

import (
	"crypto/sha256"
	"strings"
	"testing"

	"hornbook/api"
	"hornbook/catalog"
	"hornbook/merkle"
	"hornbook/model"
)

// hashed is the digest of some pieces behind one another, by the library's SHA-256.
func hashed(pieces ...string) string {
	sum := sha256.Sum256([]byte(strings.Join(pieces, "")))
	return string(sum[:])
}

// TestShowSingleChunk: P12.4 for catalogs of one chunk; leaf and root are written out.
func TestShowSingleChunk(t *testing.T) {
	for _, x := range []struct {
		l    []api.Entry
		want string
	}{
		{nil, "le"},
		{[]api.Entry{}, "le"},
		{list(entry("", "a", "b")), "ll0:1:a1:bee"},
		{list(entry("", "hi", "Hi"), entry("de", "hi", "Hallo {w}")), "ll0:2:hi2:Hiel2:de2:hi9:Hallo {w}ee"},
		{list(entry("", "a", letters(300))), "ll0:1:a300:" + letters(300) + "ee"},
	} {
		leaf := hashed("\x00", x.want)
		root := hashed("\x02", "\x00\x00\x00\x01", leaf)
		for _, version := range []int{0, 1, 7, top} {
			want := api.Manifest{Version: version, Size: len(x.want), Leaves: []string{leaf}, Root: root}
			checkShow(t, "a single chunk", state(version, x.l), want, []string{x.want}, api.OK)
			checkShow(t, "clients do not count", state(version, x.l, crowd(16)...), want, []string{x.want}, api.OK)
		}
	}
}

// TestShowThreeChunks: P12.4 for a catalog of three chunks, which the greatest length alone cuts.
func TestShowThreeChunks(t *testing.T) {
	s := "ll0:1:a1200:" + letters(1200) + "ee"
	chunks := []string{s[:512], s[512:1024], s[1024:]}
	leaves := []string{hashed("\x00", chunks[0]), hashed("\x00", chunks[1]), hashed("\x00", chunks[2])}
	upper := hashed("\x01", hashed("\x01", leaves[0], leaves[1]), leaves[2])
	want := api.Manifest{Version: 3, Size: len(s), Leaves: leaves, Root: hashed("\x02", "\x00\x00\x00\x03", upper)}
	checkShow(t, "three chunks", state(3, list(entry("", "a", letters(1200)))), want, chunks, api.OK)
}

// TestShowManyChunks: P12.4, P12.6 for catalogs of many chunks, up to the longest one.
func TestShowManyChunks(t *testing.T) {
	mixed := some(200)
	for i := range mixed {
		mixed[i].Pattern = strings.Repeat(mixed[i].Key+" ", 80)
	}
	for _, l := range [][]api.Entry{some(10), some(50), some(200), mixed, sized(t, 131000), sized(t, 131072)} {
		m := state(9, l, crowd(2)...)
		x, chunks, e := model.Show(m)
		if e != api.OK || len(chunks) < 2 || len(x.Leaves) != len(chunks) {
			t.Errorf("Show of %d entries answers %d chunks, %d leaves, %d", len(l), len(chunks), len(x.Leaves), e)
		}
		checkChunks(t, m)
		checkModelDefined(t, "many chunks", m)
	}
}

// checkChunks: P12.4, P12.6: the chunks are the catalog's encoding, and each of them is proved by the root.
func checkChunks(t testing.TB, m api.Model) {
	t.Helper()
	x, chunks, e := model.Show(m)
	s, wrong := catalog.Bytes(m.Entries)
	if e != api.OK || wrong != api.OK || strings.Join(chunks, "") != s || x.Size != len(s) || x.Version != m.Version {
		t.Errorf("Show of %s answers %s, %s, %d", brief(m), brief(x), brief(chunks), e)
	}
	for i, text := range chunks {
		proof, e := merkle.Prove(x.Leaves, i)
		if e != api.OK || !merkle.Check(x.Root, len(chunks), i, merkle.Leaf(text), proof) {
			t.Errorf("the root that Show of %s answers does not prove the chunk %d", brief(m), i)
		}
	}
}

// TestShowTooLongToPut: P12.3, P12.4 for a valid model whose own encoding is too long.
func TestShowTooLongToPut(t *testing.T) {
	m := state(1, sized(t, 131072))
	checkPutModel(t, "too long", m, "", api.ErrLong)
	checkChunks(t, m)
}
