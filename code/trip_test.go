package code_test

import (
	"math"
	"math/rand"
	"strings"
	"testing"

	"hornbook/api"
	"hornbook/code"
)

// What a reader that goes byte by byte waits for.
const (
	atValue = iota
	atSign  // behind an i
	atMinus // behind a -
	atZero  // behind a 0 that is a whole number
	atDigit // behind another digit
	atBody  // within a text
	atEnd   // behind the value
)

// slow says what Get is to answer, one byte after the other, for strings too short for the other limits than that of a length.
type slow struct {
	wait, open, left int
	end              byte // of the digits that are being read
}

func (r *slow) close() {
	r.wait = atValue
	if r.open == 0 {
		r.wait = atEnd
	}
}

func (r *slow) begin(c byte) bool {
	switch {
	case c == 'e' && r.open > 0:
		r.open--
		r.close()
	case c == 'l':
		r.open++
	case c == 'i':
		r.wait, r.end = atSign, 'e'
	case c >= '0' && c <= '9':
		r.end, r.left = ':', 0
		return r.digit(c)
	default:
		return false
	}
	return true
}

func (r *slow) digit(c byte) bool {
	if c < '0' || c > '9' {
		return false
	}
	if r.wait = atDigit; c == '0' && r.left == 0 {
		r.wait = atZero
	}
	r.left = r.left*10 + int(c-'0')
	return r.end == 'e' || r.left <= api.MaxBytes
}

func (r *slow) finish() {
	if r.end == 'e' || r.left == 0 {
		r.left = 0
		r.close()
		return
	}
	r.wait = atBody
}

func (r *slow) step(c byte) bool {
	switch r.wait {
	case atValue:
		return r.begin(c)
	case atSign:
		if r.left = 0; c == '-' {
			r.wait = atMinus
			return true
		}
		return r.digit(c)
	case atMinus:
		return c != '0' && r.digit(c)
	case atZero, atDigit:
		if c == r.end {
			r.finish()
			return true
		}
		return r.wait == atDigit && r.digit(c)
	case atBody:
		if r.left--; r.left == 0 {
			r.close()
		}
		return true
	}
	return false
}

func slowly(s string) (api.Errno, int) {
	var r slow
	for i := range len(s) {
		if !r.step(s[i]) {
			return api.ErrByte, i
		}
	}
	if r.wait != atEnd {
		return api.ErrEnd, len(s)
	}
	return api.OK, 0
}

// checkTrip holds Get and Put against each other at one string.
func checkTrip(t *testing.T, s string) {
	t.Helper()
	v, e, at := code.Get(s)
	if e != api.OK {
		if !zero(v) || at < 0 || at > len(s) {
			t.Errorf("Get(%s) answers %v, %d at %d", brief(s), v, e, at)
		}
		return
	}
	if e := code.Right(v); at != 0 || e != api.OK {
		t.Errorf("Get(%s) answers what Right refuses by %d, at %d", brief(s), e, at)
	}
	if back, e := code.Put(v); e != api.OK || back != s {
		t.Errorf("Put(Get(%s)) is %s, %d", brief(s), brief(back), e)
	}
}

// TestAllShort: P1.3 and P1.4 for every string of up to six bytes over the bytes that matter.
func TestAllShort(t *testing.T) {
	const bytes = "il012-:ex"
	var grow func(s string)
	grow = func(s string) {
		e, at := slowly(s)
		if _, e2, at2 := code.Get(s); e2 != e || at2 != at {
			t.Errorf("Get(%q) answers %d at %d, not %d at %d", s, e2, at2, e, at)
		}
		checkTrip(t, s)
		for i := 0; i < len(bytes) && len(s) < 6; i++ {
			grow(s + bytes[i:i+1])
		}
	}
	grow("")
}

// TestPrefixes: P1.3: no piece of an encoding is one, and it ends too early at its own end.
func TestPrefixes(t *testing.T) {
	for _, s := range []string{
		"i-9223372036854775808e", "i9223372036854775807e", "12:abcdefghijkl", "li-12e2:ablee", "l0:lei0el2:eelleeee",
		strings.Repeat("l", 30) + strings.Repeat("e", 30),
	} {
		for n := range len(s) {
			checkFaults(t, []fault{{s[:n], api.ErrEnd, n}})
		}
		for c := range 256 {
			checkFaults(t, []fault{{s + string([]byte{byte(c)}), api.ErrByte, len(s)}})
		}
		checkTrip(t, s)
	}
}

// TestFirstBytes: P1.3: which of all bytes may begin a value.
func TestFirstBytes(t *testing.T) {
	for c := range 256 {
		s := string([]byte{byte(c)})
		want := fault{s, api.ErrByte, 0}
		if strings.Contains("il0123456789", s) {
			want = fault{s, api.ErrEnd, 1}
		}
		checkFaults(t, []fault{want})
	}
}

// someValue is a value of at most so many levels.
func someValue(r *rand.Rand, levels int) api.Val {
	switch k := r.Intn(4); {
	case k == 0:
		return num(int64(r.Uint64()) >> r.Intn(64))
	case k == 1 || levels == 1:
		b := make([]byte, r.Intn(20))
		r.Read(b)
		return text(string(b))
	}
	l := list()
	for range r.Intn(5) {
		l.L = append(l.L, someValue(r, levels-1))
	}
	return l
}

// TestTrip: P1.4 from a value to its bytes and back; and that two values have two encodings.
func TestTrip(t *testing.T) {
	r := rand.New(rand.NewSource(1))
	values := []api.Val{
		num(0), num(math.MaxInt64), num(math.MinInt64), text(""), text("e"), list(), chain(num(1), 30), row(text("a"), 3999),
	}
	for range 3000 {
		values = append(values, someValue(r, 6))
	}
	seen := map[string]api.Val{}
	for _, v := range values {
		s, e := code.Put(v)
		if e != api.OK {
			t.Fatalf("Put(%v) answers %d", v, e)
		}
		if w, e, at := code.Get(s); e != api.OK || at != 0 || !same(v, w) {
			t.Errorf("Get(%s) answers %v, %d at %d", brief(s), w, e, at)
		}
		if w, ok := seen[s]; ok && !same(v, w) {
			t.Errorf("%s encodes both %v and %v", brief(s), v, w)
		}
		seen[s] = v
	}
}

// TestBroken: P1 and P1.4 for encodings with a byte changed, taken out or put in.
func TestBroken(t *testing.T) {
	const bytes = "il019-:ex\x00"
	r := rand.New(rand.NewSource(2))
	for range 3000 {
		s, _ := code.Put(someValue(r, 5))
		at := r.Intn(len(s))
		c := bytes[r.Intn(len(bytes)):][:1]
		checkTrip(t, s[:at]+c+s[at+1:])
		checkTrip(t, s[:at]+s[at+1:])
		checkTrip(t, s[:at]+c+s[at:])
	}
}

// FuzzGet: P1 and P1.4 for any string.
func FuzzGet(f *testing.F) {
	for _, s := range []string{"", "i-12e", "2:ab", "li1elee", "i01e", "3:ab", strings.Repeat("l", 31)} {
		f.Add(s)
	}
	f.Fuzz(checkTrip)
}
