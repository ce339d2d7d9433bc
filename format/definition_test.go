package format_test

import (
	"math/big"
	"reflect"
	"regexp"
	"slices"
	"strconv"
	"strings"
	"testing"

	"hornbook/api"
	"hornbook/format"
	"hornbook/pattern"
	"hornbook/plural"
)

// text, arg, hash, count and choose are parts, right or wrong; when is a case.
func text(s string) api.Part   { return api.Part{Kind: api.PText, Text: s} }
func arg(name string) api.Part { return api.Part{Kind: api.PArg, Name: name} }
func hash() api.Part           { return api.Part{Kind: api.PHash} }
func count(name string, cases ...api.Case) api.Part {
	return api.Part{Kind: api.PPlural, Name: name, Cases: cases}
}
func choose(name string, cases ...api.Case) api.Part {
	return api.Part{Kind: api.PSelect, Name: name, Cases: cases}
}
func when(key string, kids ...api.Part) api.Case { return api.Case{Key: key, Kids: kids} }
func parts(l ...api.Part) []api.Part             { return l }

// number and word are arguments; with lists them.
func number(name string, n int64) api.Arg { return api.Arg{Name: name, IsNum: true, N: n} }
func word(name, s string) api.Arg         { return api.Arg{Name: name, S: s} }
func with(args ...api.Arg) []api.Arg      { return args }

// parsed answers the pattern of a text, which keeps the tests readable.
func parsed(t testing.TB, s string) []api.Part {
	t.Helper()
	l, e, at := pattern.Parse(s)
	if e != api.OK {
		t.Fatalf("%s is no pattern: %d at %d", brief(s), e, at)
	}
	return l
}

var (
	aName   = regexp.MustCompile(`\A[a-z][a-z0-9_]{0,31}\z`)
	aLocale = regexp.MustCompile(`\A[a-zA-Z0-9]+(?:-[a-zA-Z0-9]+)*\z`)
)

// slowArgs counts what is wrong about arguments, word by word.
func slowArgs(args []api.Arg) bool {
	wrong := 0
	if len(args) >= 33 {
		wrong++
	}
	names := map[string]int{}
	for _, a := range args {
		names[a.Name]++
		if names[a.Name] > 1 || !aName.MatchString(a.Name) {
			wrong++
		}
		if a.IsNum && a.S != "" {
			wrong++
		}
		if !a.IsNum && (a.N != 0 || len(a.S) >= 8001) {
			wrong++
		}
	}
	return wrong == 0
}

// step is the next thing that happens in an evaluation: a text is added, or it fails.
type step struct {
	text string
	e    api.Errno
}

// slowFormat walks all that would happen, and ends at the first step that fails or is too much.
func slowFormat(l []api.Part, language string, args []api.Arg) (string, api.Errno) {
	if e := pattern.Right(l); e != api.OK {
		return "", e
	}
	if !slowArgs(args) {
		return "", api.ErrArg
	}
	out := ""
	for _, s := range steps(l, language, args, nil) {
		out += s.text
		switch {
		case s.e != api.OK:
			return "", s.e
		case len(out) > 8000:
			return "", api.ErrLong
		}
	}
	return out, api.OK
}

// steps answers what happens in the parts, those behind an error too; numbers are those of the plurals around them, the innermost last.
func steps(l []api.Part, language string, args []api.Arg, numbers []int64) []step {
	var out []step
	for _, part := range l {
		i := slices.IndexFunc(args, func(a api.Arg) bool { return a.Name == part.Name })
		switch {
		case part.Kind == api.PText:
			out = append(out, step{text: part.Text})
		case part.Kind == api.PHash:
			out = append(out, step{text: decimal(numbers[len(numbers)-1])})
		case i < 0:
			out = append(out, step{e: api.ErrMissing})
		case part.Kind == api.PArg && args[i].IsNum:
			out = append(out, step{text: decimal(args[i].N)})
		case part.Kind == api.PArg:
			out = append(out, step{text: args[i].S})
		case args[i].IsNum != (part.Kind == api.PPlural):
			out = append(out, step{e: api.ErrType})
		case part.Kind == api.PPlural:
			n := args[i].N
			out = append(out, steps(slowCase(part.Cases, slowExact(n), plural.Category(language, n)), language, args, append(slices.Clone(numbers), n))...)
		default:
			out = append(out, steps(slowCase(part.Cases, args[i].S, args[i].S), language, args, numbers)...)
		}
	}
	return out
}

func decimal(n int64) string { return big.NewInt(n).String() }

// slowExact is the key that means a number exactly, and no key for a negative one.
func slowExact(n int64) string {
	if n < 0 {
		return "no key"
	}
	return "=" + decimal(n)
}

// slowCase weighs all cases, and answers the parts of the heaviest.
func slowCase(cases []api.Case, exact, category string) []api.Part {
	var kids []api.Part
	heaviest := 0
	for _, c := range cases {
		weight := 0
		switch c.Key {
		case exact:
			weight = 3
		case category:
			weight = 2
		case "other":
			weight = 1
		}
		if weight > heaviest {
			kids, heaviest = c.Kids, weight
		}
	}
	return kids
}

func slowLocale(s string) bool { return len(s) <= 32 && aLocale.MatchString(s) }

func slowLanguage(s string) string {
	if !slowLocale(s) {
		return ""
	}
	return strings.Split(s, "-")[0]
}

// slowChain joins ever fewer parts.
func slowChain(s string) []string {
	if s == "" {
		return []string{""}
	}
	if !slowLocale(s) {
		return nil
	}
	var out []string
	all := strings.Split(s, "-")
	for n := len(all); n >= 0; n-- {
		out = append(out, strings.Join(all[:n], "-"))
	}
	return out
}

// roomy answers a list that is the same, with one more element behind its end, by which is seen whether it is written to.
func roomy[T any](list []T, mark T) []T {
	if list == nil {
		return nil
	}
	all := append(append(make([]T, 0, len(list)+1), list...), mark)
	return all[:len(list)]
}

// copied answers parts that are the same, all of their lists new and with room.
func copied(l []api.Part) []api.Part {
	out := roomy(l, text("mark"))
	for i := range out {
		out[i].Cases = roomy(out[i].Cases, when("mark"))
		for j := range out[i].Cases {
			out[i].Cases[j].Kids = copied(out[i].Cases[j].Kids)
		}
	}
	return out
}

// whole answers parts that copied made with what stands behind their lists.
func whole(l []api.Part) []api.Part {
	var out []api.Part
	for _, part := range l[:cap(l)] {
		var cases []api.Case
		for _, c := range part.Cases[:cap(part.Cases)] {
			cases = append(cases, api.Case{Key: c.Key, Kids: whole(c.Kids)})
		}
		part.Cases = cases
		out = append(out, part)
	}
	return out
}

// guarded answers parts and arguments that are the same, and a function that tells whether all of them are as they were.
func guarded(l []api.Part, args []api.Arg) ([]api.Part, []api.Arg, func() bool) {
	a, b := copied(l), roomy(args, word("mark", "mark"))
	parts, words := whole(a), slices.Clone(b[:cap(b)])
	return a, b, func() bool { return reflect.DeepEqual(parts, whole(a)) && slices.Equal(words, b[:cap(b)]) }
}

// brief keeps a failure readable when what failed is long.
func brief(s string) string {
	if len(s) <= 80 {
		return strconv.Quote(s)
	}
	return strconv.Quote(s[:80]) + ".. of " + strconv.Itoa(len(s)) + " bytes"
}

// shortArgs tells arguments, right or wrong.
func shortArgs(args []api.Arg) string {
	var b strings.Builder
	for _, a := range args {
		b.WriteString(" " + brief(a.Name) + "=")
		if a.IsNum || a.N != 0 {
			b.WriteString(decimal(a.N))
		}
		if !a.IsNum || a.S != "" {
			b.WriteString(brief(a.S))
		}
	}
	return b.String()
}

// shortParts tells parts by their text, and those that have none by how many there are.
func shortParts(l []api.Part) string {
	if s, e := pattern.Print(l); e == api.OK {
		return brief(s)
	}
	return strconv.Itoa(len(l)) + " parts"
}

func checkFormat(t *testing.T, name string, l []api.Part, language string, args []api.Arg, want string, wantErr api.Errno) {
	t.Helper()
	a, b, intact := guarded(l, args)
	if got, e := format.Format(a, language, b); got != want || e != wantErr {
		t.Errorf("%s: Format of %s in %s with%s answers %s, %d, not %s, %d", name, shortParts(l), brief(language), shortArgs(args), brief(got), e, brief(want), wantErr)
	}
	if !intact() {
		t.Errorf("%s: Format changes an argument", name)
	}
	if s, e := slowFormat(l, language, args); s != want || e != wantErr {
		t.Errorf("%s: by the chapter's words it is %s, %d, not %s, %d", name, brief(s), e, brief(want), wantErr)
	}
}

// checkDefined holds Format against the chapter's words.
func checkDefined(t *testing.T, name string, l []api.Part, language string, args []api.Arg) {
	t.Helper()
	want, e := slowFormat(l, language, args)
	checkFormat(t, name, l, language, args, want, e)
}

// checkLocale holds the three functions against what a text is: chain is empty if it is neither empty nor a locale.
func checkLocale(t *testing.T, s string, is bool, language string, chain []string) {
	t.Helper()
	if got := format.Locale(s); got != is {
		t.Errorf("Locale(%s) is %t", brief(s), got)
	}
	if got := format.Language(s); got != language {
		t.Errorf("Language(%s) answers %s, not %s", brief(s), brief(got), brief(language))
	}
	if got := format.Chain(s); !slices.Equal(got, chain) {
		t.Errorf("Chain(%s) answers %q, not %q", brief(s), got, chain)
	}
}

func checkLocaleDefined(t *testing.T, s string) {
	t.Helper()
	checkLocale(t, s, slowLocale(s), slowLanguage(s), slowChain(s))
}
