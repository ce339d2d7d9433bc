package frame_test

import (
	"math/rand"
	"strings"
	"testing"

	"hornbook/api"
	"hornbook/frame"
)

// begins tries every body that may be there, as the definition says.
func begins(s string) (string, bool) {
	for n := 0; n <= api.MaxFrame && n+12 <= len(s); n++ {
		if body := s[8 : 8+n]; strings.HasPrefix(s, made(body)) {
			return body, true
		}
	}
	return "", false
}

// checkFrames holds Scan against the definition (P2.2), and its bodies against Put (P2.3); for strings that are short.
func checkFrames(t *testing.T, s string) {
	t.Helper()
	var bodies []string
	end := 0
	for body, ok := begins(s); ok; body, ok = begins(s[end:]) {
		bodies = append(bodies, body)
		end += len(body) + 12
	}
	checkScan(t, "by definition", s, bodies, end)
	checkBack(t, s)
}

// checkBack: P2.3: the frames of the bodies are the bytes ahead of the offset.
func checkBack(t *testing.T, s string) {
	t.Helper()
	got, at := frame.Scan(s)
	if at < 0 || at > len(s) {
		t.Fatalf("Scan(%s) answers the offset %d", brief(s), at)
	}
	var back strings.Builder
	for _, body := range got {
		back.WriteString(mustPut(t, body))
	}
	if back.String() != s[:at] {
		t.Errorf("the frames of Scan(%s) are not its first %d bytes", brief(s), at)
	}
}

func someBody(r *rand.Rand) string {
	n := r.Intn(40)
	if r.Intn(50) == 0 {
		n = api.MaxFrame - r.Intn(2)
	}
	b := make([]byte, n)
	r.Read(b)
	return string(b)
}

// TestSequences: P2.3 for frames and whatever follows them.
func TestSequences(t *testing.T) {
	r := rand.New(rand.NewSource(1))
	for range 300 {
		var bodies []string
		s := ""
		for range r.Intn(8) {
			bodies = append(bodies, someBody(r))
			s += mustPut(t, bodies[len(bodies)-1])
		}
		checkScan(t, "frames alone", s, bodies, len(s))
		for _, behind := range []string{"x", "\x00\x00\x00\x00", some(r.Intn(40)), header(3) + "ab", made("cut")[:14], header(api.MaxFrame + 1)} {
			if _, ok := begins(behind); ok {
				continue
			}
			checkScan(t, "bytes behind", s+behind, bodies, len(s))
			checkBack(t, s+behind)
		}
		checkScan(t, "a frame behind", s+emptyFrame, append(bodies, ""), len(s)+12)
	}
}

// TestBrokenFrames: P2.2 and P2.3 for frames with a byte changed, taken out or put in.
func TestBrokenFrames(t *testing.T) {
	r := rand.New(rand.NewSource(2))
	for range 1000 {
		s := ""
		for range 1 + r.Intn(4) {
			s += made(some(r.Intn(10)))
		}
		at := r.Intn(len(s))
		c := string([]byte{byte(r.Intn(256))})
		checkFrames(t, s)
		checkFrames(t, s[:at]+c+s[at+1:])
		checkFrames(t, s[:at]+s[at+1:])
		checkFrames(t, s[:at]+c+s[at:])
	}
}

// TestOneByteChanged: P2.4: every change of every byte of small frames; of the greatest one, of every byte of its ends and of some others.
func TestOneByteChanged(t *testing.T) {
	for _, body := range []string{"", "\x00", "a", "\x00\x00\x00\x00", "hello", emptyFrame, some(100)} {
		s := mustPut(t, body)
		for at := range len(s) {
			for by := 1; by < 256; by++ {
				checkScan(t, "a byte changed", changed(s, at, byte(by)), nil, 0)
			}
		}
	}
	s := mustPut(t, some(api.MaxFrame))
	for at := range len(s) {
		if at < 12 || at >= len(s)-8 || at%4099 == 0 {
			checkScan(t, "a byte changed", changed(s, at, 1), nil, 0)
			checkScan(t, "a byte changed", changed(s, at, 0x80), nil, 0)
		}
	}
}

// TestOneByteChangedWithin: P2.4: frames ahead of the changed one stay, and none behind it is read, even where the changed length fits what follows.
func TestOneByteChangedWithin(t *testing.T) {
	ahead, s, behind := made("ahead"), made("changed"), made("behind")
	for at := range len(s) {
		for by := 1; by < 256; by++ {
			checkScan(t, "a byte changed", ahead+changed(s, at, byte(by))+behind, []string{"ahead"}, len(ahead))
		}
	}
	// The length alone is made that of a shorter body whose checksum does stand behind it.
	nested := made(some(20) + four(library(some(20))) + behind)
	checkScan(t, "a length changed", four(20)+nested[4:], nil, 0)
}

// TestTruncated: P2.4: a frame that is cut off at each of its bytes, alone and behind others.
func TestTruncated(t *testing.T) {
	ahead := made("ahead")
	for _, body := range []string{"", "a", "\x00\x00\x00\x00", emptyFrame, some(100)} {
		s := mustPut(t, body)
		for n := range len(s) {
			checkScan(t, "cut off", s[:n], nil, 0)
			checkScan(t, "cut off behind a frame", ahead+s[:n], []string{"ahead"}, len(ahead))
		}
	}
	s := mustPut(t, some(api.MaxFrame))
	for n := range len(s) {
		if n < 20 || n >= len(s)-8 || n%4099 == 0 {
			checkScan(t, "cut off", s[:n], nil, 0)
		}
	}
}

// flipped XORs 32 bits into s, from a bit on; the bits are counted as the checksum reads them: byte by byte, the least one first.
func flipped(s string, from int, by uint32) string {
	b := []byte(s)
	for i := range 32 {
		if by>>i&1 == 1 {
			b[(from+i)/8] ^= 1 << ((from + i) % 8)
		}
	}
	return string(b)
}

// TestBursts: P2.4: bodies that differ within 32 consecutive bits.
func TestBursts(t *testing.T) {
	r := rand.New(rand.NewSource(3))
	check := func(s string, from int, by uint32) {
		t.Helper()
		if frame.Sum(s) == frame.Sum(flipped(s, from, by)) {
			t.Errorf("%s has its checksum still, with %08X from bit %d on", brief(s), by, from)
		}
	}
	s := some(40)
	for from := 0; from+32 <= 8*len(s); from++ {
		for i := range 32 {
			for j := range i + 1 {
				check(s, from, 1<<i|1<<j)
			}
		}
		for _, by := range []uint32{0xFFFFFFFF, 0x82F63B78, 0x05EC76F1, 0x417B1DBC, 0x1EDC6F41, 0x80000001, 0xAAAAAAAA} {
			check(s, from, by)
		}
		for range 100 {
			check(s, from, r.Uint32()|1<<r.Intn(32))
		}
	}
	long := some(api.MaxFrame)
	for range 100 {
		check(long, r.Intn(8*len(long)-31), r.Uint32()|1)
	}
}

// TestBurstsInFrames: P2.4: a body that was changed within 32 consecutive bits makes no frame with the old checksum.
func TestBurstsInFrames(t *testing.T) {
	r := rand.New(rand.NewSource(4))
	for range 2000 {
		body := some(4 + r.Intn(30))
		other := flipped(body, r.Intn(8*len(body)-31), r.Uint32()|1)
		s := made(body)
		checkScan(t, "bits changed", s[:8]+other+s[8+len(body):], nil, 0)
	}
}

// FuzzScan: P1, P2.2 and P2.3 for any string.
func FuzzScan(f *testing.F) {
	for _, s := range []string{"", emptyFrame, emptyFrame + "abc", made("a") + made("bc"), header(api.MaxFrame + 1), header(1<<32 - 1), made("a")[:12]} {
		f.Add(s)
	}
	f.Fuzz(func(t *testing.T, s string) {
		if len(s) <= 200 {
			checkFrames(t, s)
		}
		checkBack(t, s)
	})
}
