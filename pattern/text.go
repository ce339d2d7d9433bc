package pattern

import (
	"strings"

	"hornbook/api"
)

// What stands between the name of a choice and its cases.
const (
	pluralWord = ", plural,"
	selectWord = ", select,"
)

// printer builds the text of a pattern. It leaves off once that is too long, as a pattern may be far longer than its text may be.
type printer struct{ strings.Builder }

func (p *printer) full() bool { return p.Len() > api.MaxPattern }

func (p *printer) parts(l []api.Part) {
	for _, part := range l {
		p.part(part)
	}
}

func (p *printer) part(part api.Part) {
	switch part.Kind {
	case api.PText:
		p.text(part.Text)
	case api.PArg:
		p.WriteString("{" + part.Name + "}")
	case api.PHash:
		p.WriteByte('#')
	case api.PPlural:
		p.choice(part, pluralWord)
	case api.PSelect:
		p.choice(part, selectWord)
	}
}

func (p *printer) text(s string) {
	for i := 0; i < len(s) && !p.full(); i++ {
		switch s[i] {
		case '\'':
			p.WriteString("''")
		case '{', '}', '#':
			p.WriteString("'" + s[i:i+1] + "'")
		default:
			p.WriteByte(s[i])
		}
	}
}

func (p *printer) choice(part api.Part, word string) {
	p.WriteString("{" + part.Name + word)
	for _, branch := range part.Cases {
		if p.full() {
			return
		}
		p.WriteString(" " + branch.Key + " {")
		p.parts(branch.Kids)
		p.WriteByte('}')
	}
	p.WriteByte('}')
}

// reader reads the text of a pattern from the left, whether the parts are a pattern or not. At the first error it gets stuck: it stays there, and answers anything from then on.
type reader struct {
	s    string
	at   int
	open int // the branches that have begun and not ended
	e    api.Errno
}

func (r *reader) parts(inPlural bool) []api.Part {
	var l []api.Part
	for r.rest() != "" && !r.next("}") {
		l = append(l, r.part(inPlural))
	}
	return l
}

func (r *reader) part(inPlural bool) api.Part {
	switch {
	case r.next("{"):
		return r.placeholder(inPlural)
	case r.next("#"):
		if !inPlural {
			r.fail()
		}
		r.word("#")
		return api.Part{Kind: api.PHash}
	}
	return api.Part{Kind: api.PText, Text: r.text()}
}

func (r *reader) text() string {
	var text strings.Builder
	for rest := r.rest(); rest != ""; rest = r.rest() {
		switch rest[0] {
		case '{', '}', '#':
			return text.String()
		case '\'':
			text.WriteString(r.quoted())
		default:
			text.WriteByte(rest[0])
			r.at++
		}
	}
	return text.String()
}

// quoted reads an apostrophe and what must follow it, and answers the byte that they stand for.
func (r *reader) quoted() string {
	r.word("'")
	c := r.oneOf("'{}#")
	if c != "'" {
		r.word("'")
	}
	return c
}

func (r *reader) placeholder(inPlural bool) api.Part {
	r.word("{")
	name := r.longest(Name)
	switch {
	case r.next(selectWord[:3]): // so many bytes tell the two words apart
		r.word(selectWord)
		return api.Part{Kind: api.PSelect, Name: name, Cases: r.cases(inPlural)}
	case r.next(","):
		r.word(pluralWord)
		return api.Part{Kind: api.PPlural, Name: name, Cases: r.cases(true)}
	}
	r.word("}")
	return api.Part{Kind: api.PArg, Name: name}
}

func (r *reader) cases(inPlural bool) []api.Case {
	var cases []api.Case
	for begin := r.oneOf(" "); begin == " "; begin = r.oneOf(" }") {
		cases = append(cases, r.branch(inPlural))
	}
	return cases
}

func (r *reader) branch(inPlural bool) api.Case {
	key := r.key()
	r.word(" ")
	if r.next("{") && r.open == api.MaxNest {
		r.e = api.ErrDeep
	}
	r.word("{")
	r.open++
	kids := r.parts(inPlural)
	r.open--
	r.word("}")
	return api.Case{Key: key, Kids: kids}
}

func (r *reader) key() string {
	if r.next("=") {
		r.word("=")
		return "=" + r.longest(isNumber)
	}
	return r.longest(Name)
}

// rest is what is still to be read: nothing where the reader is stuck.
func (r *reader) rest() string {
	if r.e != api.OK {
		return ""
	}
	return r.s[r.at:]
}

// next tells whether a text comes next, and leaves it there.
func (r *reader) next(text string) bool { return strings.HasPrefix(r.rest(), text) }

// word reads a text that must come next, byte by byte: the first one that differs is where the reader gets stuck.
func (r *reader) word(text string) {
	for i := range len(text) {
		r.oneOf(text[i : i+1])
	}
}

// oneOf reads one of the bytes that may come next, and answers it.
func (r *reader) oneOf(may string) string {
	rest := r.rest()
	if rest == "" || !strings.Contains(may, rest[:1]) {
		r.fail()
		return ""
	}
	r.at++
	return rest[:1]
}

// longest reads bytes as long as what they are together is right. It ends ahead of a byte that cannot follow, where whoever reads on gets stuck, as only other bytes may stand behind a name or a number.
func (r *reader) longest(right func(string) bool) string {
	rest, n := r.rest(), 0
	for n < len(rest) && right(rest[:n+1]) {
		n++
	}
	if n == 0 {
		r.fail()
	}
	r.at += n
	return rest[:n]
}

// fail gets the reader stuck where it is, if it is not stuck yet.
func (r *reader) fail() {
	switch {
	case r.e != api.OK:
	case r.at == len(r.s):
		r.e = api.ErrEnd
	default:
		r.e = api.ErrPattern
	}
}
