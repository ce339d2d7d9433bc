package plural

import (
	"strconv"
	"strings"

	"hornbook/api"
)

// What stands between the parts of a rule's text.
const (
	betweenRows      = " or "
	betweenRelations = " and "
	betweenSpans     = ","
	toHi             = ".."
)

func ruleText(rule [][]api.Rel) string { return joined(rule, rowText, betweenRows) }

func rowText(row []api.Rel) string { return joined(row, relationText, betweenRelations) }

func relationText(rel api.Rel) string {
	text := "i"
	if rel.Mod > 0 {
		text += " % " + strconv.Itoa(rel.Mod)
	}
	if rel.Not {
		text += " != "
	} else {
		text += " = "
	}
	return text + joined(rel.Spans, spanText, betweenSpans)
}

func spanText(span api.Span) string {
	if span.Hi == span.Lo {
		return strconv.Itoa(span.Lo)
	}
	return strconv.Itoa(span.Lo) + toHi + strconv.Itoa(span.Hi)
}

// joined answers the texts of all parts, with something between them.
func joined[T any](parts []T, text func(T) string, between string) string {
	var texts []string
	for _, part := range parts {
		texts = append(texts, text(part))
	}
	return strings.Join(texts, between)
}

// reader reads a rule's text from the left, whether the rule is valid or not. Where a byte cannot stand or is lacking it gets stuck: it stays there, and answers anything from then on.
type reader struct {
	s     string
	at    int
	stuck bool
}

func (r *reader) rule() [][]api.Rel {
	rule := [][]api.Rel{r.row()}
	for !r.stuck && r.at < len(r.s) {
		r.word(betweenRows)
		rule = append(rule, r.row())
	}
	return rule
}

func (r *reader) row() []api.Rel {
	row := []api.Rel{r.relation()}
	for r.next(" a") {
		r.word(betweenRelations)
		row = append(row, r.relation())
	}
	return row
}

func (r *reader) relation() api.Rel {
	var rel api.Rel
	r.word("i")
	if r.next(" %") {
		r.word(" % ")
		rel.Mod = r.number()
	}
	if r.next(" !") {
		r.word(" != ")
		rel.Not = true
	} else {
		r.word(" = ")
	}
	rel.Spans = r.spans()
	return rel
}

func (r *reader) spans() []api.Span {
	spans := []api.Span{r.span()}
	for r.next(betweenSpans) {
		r.word(betweenSpans)
		spans = append(spans, r.span())
	}
	return spans
}

func (r *reader) span() api.Span {
	lo := r.number()
	if !r.next(".") {
		return api.Span{Lo: lo, Hi: lo}
	}
	r.word(toHi)
	return api.Span{Lo: lo, Hi: r.number()}
}

// next tells whether a text comes next, and leaves it there.
func (r *reader) next(text string) bool {
	return !r.stuck && strings.HasPrefix(r.s[r.at:], text)
}

// word reads a text that must come next, byte by byte: the first one that differs is where the reader gets stuck.
func (r *reader) word(text string) {
	for i := range len(text) {
		if !r.next(text[i : i+1]) {
			r.stuck = true
			return
		}
		r.at++
	}
}

// number reads a number of at most MaxMod. It ends ahead of a digit that cannot follow, where whoever reads on gets stuck, as no digit may stand behind a number.
func (r *reader) number() int {
	n := 0
	for start := r.at; ; r.at++ {
		switch c := r.peek(); c {
		case '0':
			if r.at == start {
				r.at++
				return 0
			}
			fallthrough
		case '1', '2', '3', '4', '5', '6', '7', '8', '9':
			more := n*10 + int(c-'0')
			if more > api.MaxMod {
				return n
			}
			n = more
		default:
			if r.at == start {
				r.stuck = true
			}
			return n
		}
	}
}

// peek answers the byte that comes next; at the end, and where the reader is stuck, 0, which stands nowhere in a rule.
func (r *reader) peek() byte {
	if r.stuck || r.at == len(r.s) {
		return 0
	}
	return r.s[r.at]
}
