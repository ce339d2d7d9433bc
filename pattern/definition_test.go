package pattern_test

import (
	"reflect"
	"regexp"
	"slices"
	"sort"
	"strconv"
	"strings"
	"testing"

	"hornbook/api"
	"hornbook/pattern"
)

// text, arg, hash, plural and choose are parts, right or wrong; when is a case.
func text(s string) api.Part   { return api.Part{Kind: api.PText, Text: s} }
func arg(name string) api.Part { return api.Part{Kind: api.PArg, Name: name} }
func hash() api.Part           { return api.Part{Kind: api.PHash} }
func plural(name string, cases ...api.Case) api.Part {
	return api.Part{Kind: api.PPlural, Name: name, Cases: cases}
}
func choose(name string, cases ...api.Case) api.Part {
	return api.Part{Kind: api.PSelect, Name: name, Cases: cases}
}
func when(key string, kids ...api.Part) api.Case { return api.Case{Key: key, Kids: kids} }
func parts(l ...api.Part) []api.Part             { return l }

var (
	aName     = regexp.MustCompile(`\A[a-z][a-z0-9_]{0,31}\z`)
	anExact   = regexp.MustCompile(`\A=(?:0|[1-9][0-9]{0,5}|1000000)\z`)
	aCategory = regexp.MustCompile(`\A(?:zero|one|two|few|many|other)\z`)
)

// slowRight looks at every part, and counts what is wrong.
func slowRight(l []api.Part) api.Errno {
	count, deepest, wrong := 0, 0, 0
	var look func(l []api.Part, around []int)
	look = func(l []api.Part, around []int) {
		deepest = max(deepest, len(around))
		for i, part := range l {
			count++
			if i > 0 && part.Kind == api.PText && l[i-1].Kind == api.PText {
				wrong++
			}
			if !fits(part, around) {
				wrong++
			}
			for _, c := range part.Cases {
				look(c.Kids, append(slices.Clone(around), part.Kind))
			}
		}
	}
	look(l, nil)
	switch {
	case count > 1000:
		return api.ErrLong
	case deepest > 32:
		return api.ErrDeep
	case wrong > 0:
		return api.ErrTree
	}
	return api.OK
}

// fits tells whether a part alone is right, inside branches of parts of those kinds.
func fits(part api.Part, around []int) bool {
	noText, noName, noCases := part.Text == "", part.Name == "", len(part.Cases) == 0
	named := aName.MatchString(part.Name)
	switch part.Kind {
	case api.PText:
		return !noText && noName && noCases
	case api.PArg:
		return noText && named && noCases
	case api.PHash:
		return noText && noName && noCases && slices.Contains(around, api.PPlural)
	case api.PPlural:
		return noText && named && fitKeys(part.Cases, func(key string) bool { return anExact.MatchString(key) || aCategory.MatchString(key) })
	case api.PSelect:
		return noText && named && fitKeys(part.Cases, aName.MatchString)
	}
	return false
}

func fitKeys(cases []api.Case, fit func(string) bool) bool {
	times := map[string]int{}
	last := ""
	for _, c := range cases {
		last = c.Key
		times[c.Key]++
		if times[c.Key] > 1 || !fit(c.Key) {
			return false
		}
	}
	return last == "other"
}

var quotes = strings.NewReplacer("'", "''", "{", "'{'", "}", "'}'", "#", "'#'")

// written is the text of any parts.
func written(l []api.Part) string {
	var b strings.Builder
	for _, part := range l {
		switch part.Kind {
		case api.PText:
			b.WriteString(quotes.Replace(part.Text))
		case api.PArg:
			b.WriteString("{" + part.Name + "}")
		case api.PHash:
			b.WriteString("#")
		case api.PPlural, api.PSelect:
			b.WriteString("{" + part.Name + ", " + map[int]string{api.PPlural: "plural", api.PSelect: "select"}[part.Kind] + ",")
			for _, c := range part.Cases {
				b.WriteString(" " + c.Key + " {" + written(c.Kids) + "}")
			}
			b.WriteString("}")
		}
	}
	return b.String()
}

func slowPrint(l []api.Part) (string, api.Errno) {
	if e := slowRight(l); e != api.OK {
		return "", e
	}
	if s := written(l); len(s) < 2001 {
		return s, api.OK
	}
	return "", api.ErrLong
}

func slowUses(l []api.Part) []string {
	if slowRight(l) != api.OK {
		return nil
	}
	names := map[string]int{}
	for _, p := range flat(l) {
		switch p.Kind {
		case api.PArg, api.PPlural, api.PSelect:
			names[p.Name]++
		}
	}
	var out []string
	for name := range names {
		out = append(out, name)
	}
	sort.Strings(out)
	return out
}

// flat answers all parts of a list, those in branches too.
func flat(l []api.Part) []api.Part {
	var out []api.Part
	for _, part := range l {
		out = append(out, part)
		for _, c := range part.Cases {
			out = append(out, flat(c.Kids)...)
		}
	}
	return out
}

// choice is a PPlural or a PSelect that has begun, and the parts ahead of it.
type choice struct {
	part  api.Part
	ahead []api.Part
}

// machine reads a text byte by byte: its phase tells what is being read, and piece how much of it there is.
type machine struct {
	phase, piece string
	list         []api.Part
	stack        []choice
}

func slowParse(s string) ([]api.Part, api.Errno, int) {
	if len(s) > 2000 {
		return nil, api.ErrLong, 0
	}
	m := machine{phase: "text"}
	for at := range len(s) {
		if e := m.step(s[at : at+1]); e != api.OK {
			return nil, e, at
		}
	}
	if m.phase != "text" || len(m.stack) > 0 {
		return nil, api.ErrEnd, len(s)
	}
	if e := slowRight(m.list); e != api.OK {
		return nil, e, 0
	}
	return m.list, api.OK, 0
}

func (m *machine) step(c string) api.Errno {
	switch m.phase {
	case "text":
		return m.stepText(c)
	case "quote":
		return m.stepQuote(m.piece + c)
	case "name":
		return m.stepName(c)
	case "kind":
		return m.stepKind(m.piece + c)
	case "key":
		return m.stepKey(c)
	case "open":
		if c != "{" {
			return api.ErrPattern
		}
		if len(m.stack) > 32 {
			return api.ErrDeep
		}
		m.to("text", "")
	case "behind":
		switch c {
		case " ":
			m.to("key", "")
		case "}":
			top := m.top()
			m.list = append(top.ahead, top.part)
			m.stack = m.stack[:len(m.stack)-1]
			m.to("text", "")
		default:
			return api.ErrPattern
		}
	}
	return api.OK
}

func (m *machine) to(phase, piece string) { m.phase, m.piece = phase, piece }

func (m *machine) top() *choice { return &m.stack[len(m.stack)-1] }

func (m *machine) add(c string) {
	if n := len(m.list); n > 0 && m.list[n-1].Kind == api.PText {
		m.list[n-1].Text += c
	} else {
		m.list = append(m.list, text(c))
	}
}

func (m *machine) stepText(c string) api.Errno {
	plurals := slices.ContainsFunc(m.stack, func(c choice) bool { return c.part.Kind == api.PPlural })
	switch {
	case c == "'":
		m.to("quote", c)
	case c == "{":
		m.to("name", "")
	case c == "#" && plurals:
		m.list = append(m.list, hash())
	case c == "}" && len(m.stack) > 0:
		cases := m.top().part.Cases
		cases[len(cases)-1].Kids = m.list
		m.list = nil
		m.to("behind", "")
	case c == "}" || c == "#":
		return api.ErrPattern
	default:
		m.add(c)
	}
	return api.OK
}

func (m *machine) stepQuote(piece string) api.Errno {
	switch piece {
	case "'{", "'}", "'#":
		m.piece = piece
	case "''", "'{'", "'}'", "'#'":
		m.add(piece[1:2])
		m.to("text", "")
	default:
		return api.ErrPattern
	}
	return api.OK
}

func (m *machine) stepName(c string) api.Errno {
	switch {
	case aName.MatchString(m.piece + c):
		m.piece += c
	case m.piece != "" && c == "}":
		m.list = append(m.list, arg(m.piece))
		m.to("text", "")
	case m.piece != "" && c == ",":
		m.stack = append(m.stack, choice{api.Part{Name: m.piece}, m.list})
		m.list = nil
		m.to("kind", ",")
	default:
		return api.ErrPattern
	}
	return api.OK
}

func (m *machine) stepKind(piece string) api.Errno {
	for kind, word := range map[int]string{api.PPlural: ", plural, ", api.PSelect: ", select, "} {
		if strings.HasPrefix(word, piece) {
			m.piece = piece
			if word == piece {
				m.top().part.Kind = kind
				m.to("key", "")
			}
			return api.OK
		}
	}
	return api.ErrPattern
}

func (m *machine) stepKey(c string) api.Errno {
	whole := m.piece + c
	switch {
	case whole == "=" || anExact.MatchString(whole) || aName.MatchString(whole):
		m.piece = whole
	case c == " " && m.piece != "" && m.piece != "=":
		m.top().part.Cases = append(m.top().part.Cases, when(m.piece))
		m.to("open", "")
	default:
		return api.ErrPattern
	}
	return api.OK
}

// roomy answers a list that is the same, with one more element behind its end, by which is seen whether it is written to.
func roomy[T any](list []T, mark T) []T {
	if list == nil {
		return nil
	}
	all := append(append(make([]T, 0, len(list)+1), list...), mark)
	return all[:len(list)]
}

// copied answers parts that are the same, all of their lists new and with room.
func copied(l []api.Part) []api.Part {
	out := roomy(l, text("mark"))
	for i := range out {
		out[i].Cases = roomy(out[i].Cases, when("mark"))
		for j := range out[i].Cases {
			out[i].Cases[j].Kids = copied(out[i].Cases[j].Kids)
		}
	}
	return out
}

// whole answers parts that copied made with what stands behind their lists.
func whole(l []api.Part) []api.Part {
	var out []api.Part
	for _, part := range l[:cap(l)] {
		var cases []api.Case
		for _, c := range part.Cases[:cap(part.Cases)] {
			cases = append(cases, api.Case{Key: c.Key, Kids: whole(c.Kids)})
		}
		part.Cases = cases
		out = append(out, part)
	}
	return out
}

// guarded answers parts that are the same, and a function that tells whether all of them are as they were.
func guarded(l []api.Part) ([]api.Part, func() bool) {
	a := copied(l)
	before := whole(a)
	return a, func() bool { return reflect.DeepEqual(before, whole(a)) }
}

// same tells whether two lists of parts are the same; a list without elements is, nil or not.
func same(a, b []api.Part) bool {
	return slices.EqualFunc(a, b, func(a, b api.Part) bool {
		return a.Kind == b.Kind && a.Text == b.Text && a.Name == b.Name &&
			slices.EqualFunc(a.Cases, b.Cases, func(a, b api.Case) bool { return a.Key == b.Key && same(a.Kids, b.Kids) })
	})
}

// brief keeps a failure readable when what failed is long.
func brief(s string) string {
	if len(s) <= 80 {
		return strconv.Quote(s)
	}
	return strconv.Quote(s[:80]) + ".. of " + strconv.Itoa(len(s)) + " bytes"
}

// short tells parts by their text, and their kinds.
func short(l []api.Part) string {
	var kinds strings.Builder
	for _, part := range flat(l) {
		kinds.WriteString(" " + strconv.Itoa(part.Kind))
	}
	return brief(written(l)) + brief(kinds.String())
}

func checkRight(t *testing.T, name string, l []api.Part, want api.Errno) {
	t.Helper()
	a, intact := guarded(l)
	if got := pattern.Right(a); got != want {
		t.Errorf("%s: Right of %s answers %d, not %d", name, short(l), got, want)
	}
	if !intact() {
		t.Errorf("%s: Right changes its argument", name)
	}
}

func checkPrint(t *testing.T, name string, l []api.Part, want string, wantErr api.Errno) {
	t.Helper()
	a, intact := guarded(l)
	if got, e := pattern.Print(a); got != want || e != wantErr {
		t.Errorf("%s: Print of %s answers %s, %d, not %s, %d", name, short(l), brief(got), e, brief(want), wantErr)
	}
	if !intact() {
		t.Errorf("%s: Print changes its argument", name)
	}
}

func checkUses(t *testing.T, name string, l []api.Part, want []string) {
	t.Helper()
	a, intact := guarded(l)
	if got := pattern.Uses(a); !slices.Equal(got, want) {
		t.Errorf("%s: Uses of %s answers %q, not %q", name, short(l), got, want)
	}
	if !intact() {
		t.Errorf("%s: Uses changes its argument", name)
	}
}

// checkWrong holds all functions against the error that a list has.
func checkWrong(t *testing.T, name string, l []api.Part, want api.Errno) {
	t.Helper()
	checkRight(t, name, l, want)
	checkPrint(t, name, l, "", want)
	checkUses(t, name, l, nil)
}

func checkParse(t *testing.T, name, s string, want []api.Part, wantErr api.Errno, wantAt int) {
	t.Helper()
	if got, e, at := pattern.Parse(s); !same(got, want) || e != wantErr || at != wantAt {
		t.Errorf("%s: Parse of %s answers %s, %d, %d, not %s, %d, %d", name, brief(s), short(got), e, at, short(want), wantErr, wantAt)
	}
}

// checkDefined holds parts against the chapter's words, and their text with them.
func checkDefined(t *testing.T, name string, l []api.Part) {
	t.Helper()
	checkRight(t, name, l, slowRight(l))
	checkUses(t, name, l, slowUses(l))
	s, e := slowPrint(l)
	checkPrint(t, name, l, s, e)
	if e == api.OK {
		checkParse(t, name, s, l, api.OK, 0)
	}
}

func checkParseDefined(t *testing.T, name, s string) {
	t.Helper()
	want, e, at := slowParse(s)
	checkParse(t, name, s, want, e, at)
}
