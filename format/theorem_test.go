package format_test

import (
	"math"
	"math/rand"
	"slices"
	"strings"
	"testing"

	"hornbook/api"
	"hornbook/format"
	"hornbook/pattern"
	"hornbook/plural"
)

// The names that samples use, and those that they do not; words are keys and values of strings, numbers those of numbers.
var (
	names   = []string{"a", "b", "c", "d"}
	unused  = []string{"e", "aa", "other", "z_9"}
	words   = []string{"", "a", "she", "he", "one", "other", "=1", "X", "{a}"}
	numbers = []int64{0, 1, 2, 3, 5, 6, 11, 21, 100, 1000000, 1000001, -1, -2, -5, math.MaxInt64, math.MinInt64}
	tongues = []string{"", "xx", "en", "de", "fr", "ru", "pl", "cs", "ar", "sl", "cy", "en-US"}
)

func one[T any](r *rand.Rand, of []T) T { return of[r.Intn(len(of))] }

// someText is mostly short, and now and then so long that few of them fit.
func someText(r *rand.Rand) string {
	if r.Intn(8) == 0 {
		return strings.Repeat("l", 1000*(1+r.Intn(8))+r.Intn(3)-1)
	}
	return strings.Repeat("t#'{} é\xff\x00"[r.Intn(10):][:1], 1+r.Intn(3))
}

// somePattern is a valid one, of parts inside one another to a depth.
func somePattern(r *rand.Rand, depth int, inPlural bool) []api.Part {
	var l []api.Part
	for range r.Intn(7) {
		switch kind := 1 + r.Intn(5); {
		case kind == api.PText && (len(l) == 0 || l[len(l)-1].Kind != api.PText):
			l = append(l, text(someText(r)))
		case kind == api.PArg:
			l = append(l, arg(one(r, names)))
		case kind == api.PHash && inPlural:
			l = append(l, hash())
		case kind == api.PPlural && depth > 0:
			l = append(l, count(one(r, names[:2]), someCases(r, depth, true, []string{"=0", "=1", "=2", "=5", "=1000000", "zero", "one", "two", "few", "many"})...))
		case kind == api.PSelect && depth > 0:
			l = append(l, choose(one(r, names[1:3]), someCases(r, depth, inPlural, []string{"a", "she", "he", "one", "x"})...))
		}
	}
	return l
}

// someCases are of some of the keys, each at most once, and of `other`.
func someCases(r *rand.Rand, depth int, inPlural bool, keys []string) []api.Case {
	var cases []api.Case
	for _, i := range r.Perm(len(keys))[:r.Intn(5)] {
		cases = append(cases, when(keys[i], somePattern(r, depth-1, inPlural)...))
	}
	return append(cases, when("other", somePattern(r, depth-1, inPlural)...))
}

// someArg is a number or a string; those of the first names are mostly of the kind that samples ask for.
func someArg(r *rand.Rand, name string) api.Arg {
	numbered := r.Intn(2) == 0
	if r.Intn(6) > 0 {
		numbered = name == "a" || name != "c" && numbered
	}
	if numbered {
		return number(name, one(r, numbers))
	}
	if r.Intn(8) == 0 {
		s := someText(r)
		return word(name, s[:min(len(s), 8000)])
	}
	return word(name, one(r, words))
}

// someArgs are mostly one for each name, in any order.
func someArgs(r *rand.Rand) []api.Arg {
	var args []api.Arg
	for _, i := range r.Perm(len(names)) {
		if r.Intn(10) > 0 {
			args = append(args, someArg(r, names[i]))
		}
	}
	return args
}

// brokenArgs are the same, but for one thing that may make them wrong.
func brokenArgs(r *rand.Rand, args []api.Arg) []api.Arg {
	out := append(slices.Clone(args), someArg(r, one(r, names)))
	a := &out[r.Intn(len(out))]
	switch r.Intn(4) {
	case 0:
		a.Name = one(r, []string{"", "a", "b", "A", "1", "a-b", "ok"})
	case 1:
		a.IsNum = !a.IsNum
	case 2:
		a.N++
	case 3:
		a.S += "s"
	}
	return out
}

// some answers a pattern, so small that two of them are one, a language and valid arguments.
func some(r *rand.Rand) ([]api.Part, string, []api.Arg) {
	l := somePattern(r, r.Intn(4), false)
	for total(l) > 500 {
		l = somePattern(r, r.Intn(4), false)
	}
	return l, one(r, tongues), someArgs(r)
}

// total is how many parts there are, those in branches too.
func total(l []api.Part) int {
	n := len(l)
	for _, part := range l {
		for _, c := range part.Cases {
			n += total(c.Kids)
		}
	}
	return n
}

// TestSamples: P10.1 for many patterns and arguments, right and wrong.
func TestSamples(t *testing.T) {
	r := rand.New(rand.NewSource(1))
	ends := map[api.Errno]int{}
	for range 6000 {
		l, language, args := some(r)
		checkDefined(t, "any", l, language, args)
		checkDefined(t, "broken arguments", l, language, brokenArgs(r, args))
		checkDefined(t, "broken pattern", append(slices.Clone(l), hash()), language, brokenArgs(r, args))
		_, e := format.Format(l, language, args)
		ends[e]++
	}
	for _, e := range []api.Errno{api.OK, api.ErrLong, api.ErrMissing, api.ErrType} {
		if ends[e] < 50 {
			t.Errorf("the samples end with %d too seldom: %v", e, ends)
		}
	}
}

// TestUnusedAndOrder: P10.3: what is not used, and the order, have no influence.
func TestUnusedAndOrder(t *testing.T) {
	r := rand.New(rand.NewSource(2))
	for range 6000 {
		l, language, args := some(r)
		want, wantErr := format.Format(l, language, args)
		uses := pattern.Uses(l)
		var other []api.Arg
		for _, a := range args {
			switch {
			case slices.Contains(uses, a.Name):
				other = append(other, a)
			case r.Intn(2) == 0:
				other = append(other, someArg(r, a.Name))
			}
		}
		for _, name := range unused {
			if r.Intn(2) == 0 {
				other = append(other, someArg(r, name))
			}
		}
		r.Shuffle(len(other), func(i, j int) { other[i], other[j] = other[j], other[i] })
		if got, e := format.Format(l, language, other); got != want || e != wantErr {
			t.Errorf("Format of %s in %s with%s answers %s, %d, and with%s %s, %d", shortParts(l), language, shortArgs(other), brief(got), e, shortArgs(args), brief(want), wantErr)
		}
	}
}

// alike tells whether two languages have the same categories for all numbers of arguments.
func alike(a, b string, args []api.Arg) bool {
	return !slices.ContainsFunc(args, func(arg api.Arg) bool {
		return arg.IsNum && plural.Category(a, arg.N) != plural.Category(b, arg.N)
	})
}

// TestLanguagesAlike: P10.3: where the categories are the same, the output is.
func TestLanguagesAlike(t *testing.T) {
	r := rand.New(rand.NewSource(3))
	tried := 0
	for range 3000 {
		l, language, args := some(r)
		want, wantErr := format.Format(l, language, args)
		for _, other := range tongues {
			if !alike(language, other, args) {
				continue
			}
			tried++
			if got, e := format.Format(l, other, args); got != want || e != wantErr {
				t.Errorf("Format of %s with%s answers %s, %d in %s, and %s, %d in %s", shortParts(l), shortArgs(args), brief(got), e, other, brief(want), wantErr, language)
			}
		}
	}
	if tried < 10000 {
		t.Errorf("only %d languages are alike", tried)
	}
}

// TestTexts: P10.4: the output of a pattern without placeholders is its text.
func TestTexts(t *testing.T) {
	r := rand.New(rand.NewSource(4))
	for range 2000 {
		s := strings.Repeat(someText(r), 1+r.Intn(2))
		want, wantErr := s, api.OK
		if len(s) > 8000 {
			want, wantErr = "", api.ErrLong
		}
		_, language, args := some(r)
		checkFormat(t, "a text", parts(text(s)), language, args, want, wantErr)
	}
	for c := range 256 {
		s := string([]byte{byte(c)})
		checkFormat(t, "a byte", parts(text(s)), "en", nil, s, api.OK)
		checkFormat(t, "a byte of an argument", parts(arg("a")), "en", with(word("a", s)), s, api.OK)
	}
}

// joined is the concatenation of two patterns: texts that meet are one.
func joined(a, b []api.Part) []api.Part {
	out := slices.Clone(a)
	if n := len(out); n > 0 && len(b) > 0 && out[n-1].Kind == api.PText && b[0].Kind == api.PText {
		out[n-1].Text += b[0].Text
		b = b[1:]
	}
	return append(out, b...)
}

// TestConcatenations: P10.4: the output of two patterns is that of both, unless it is too long, or the first error of both.
func TestConcatenations(t *testing.T) {
	r := rand.New(rand.NewSource(5))
	ends := map[api.Errno]int{}
	for range 6000 {
		a, language, args := some(r)
		b, _, _ := some(r)
		x, xErr := format.Format(a, language, args)
		y, yErr := format.Format(b, language, args)
		got, e := format.Format(joined(a, b), language, args)
		ends[e]++
		want, wantErr := x+y, api.OK
		switch {
		case xErr != api.OK:
			want, wantErr = "", xErr
		case len(want) > 8000 || yErr != api.OK && e == api.ErrLong && x != "": // too long ahead of the second one's error
			want, wantErr = "", api.ErrLong
		case yErr != api.OK:
			want, wantErr = "", yErr
		}
		if got != want || e != wantErr {
			t.Errorf("Format of %s and %s in %s with%s answers %s, %d, not %s, %d", shortParts(a), shortParts(b), language, shortArgs(args), brief(got), e, brief(want), wantErr)
		}
	}
	if ends[api.OK] < 500 || ends[api.ErrLong] < 50 {
		t.Errorf("the concatenations end one-sidedly: %v", ends)
	}
}

// TestNothingKept: R1 and R4: a call has no influence on another one, an aborted one neither.
func TestNothingKept(t *testing.T) {
	l, args := parsed(t, "a{n, plural, one {#} other {{x}}}"), with(number("n", 1))
	for range 3 {
		checkFormat(t, "well", l, "en", args, "a1", api.OK)
		checkFormat(t, "aborted", l, "", args, "", api.ErrMissing)
		checkFormat(t, "too long", append(parts(l...), text(filled(8000))), "en", args, "", api.ErrLong)
		checkFormat(t, "none", nil, "en", args, "", api.OK)
	}
}

// FuzzFormat: P10.1 for any pattern that can be read, any language, and arguments of any bytes.
func FuzzFormat(f *testing.F) {
	for _, s := range []string{"", "{x}", files, "{g, select, she {her} other {their}} {x}", "{n, plural, =1 {{g}} one {#} other {{n, select, other {}}}}{x, plural, other {}}"} {
		f.Add(s, "en", "x", "y", "n", int64(-5), false)
		f.Add(s, "", "g", "she", "n", int64(1), false)
		f.Add(s, "ru", "n", "", "n", int64(21), true)
	}
	f.Fuzz(func(t *testing.T, s, language, name, value, numberName string, n int64, mixed bool) {
		args := with(word(name, value), number(numberName, n))
		if mixed {
			args = with(api.Arg{Name: name, IsNum: true, N: n, S: value}, api.Arg{Name: numberName, N: n, S: value})
		}
		if l, e, _ := pattern.Parse(s); e == api.OK {
			checkDefined(t, "any", l, language, args)
			checkDefined(t, "any, twice", joined(l, l), language, args)
		}
		checkDefined(t, "any text", parts(text(s), arg(name)), language, args)
	})
}
