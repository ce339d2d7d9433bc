package format

import (
	"strconv"
	"strings"

	"hornbook/api"
	"hornbook/plural"
)

const other = "other" // the key that every choice ends with

// evaluated answers the output of a pattern, or the error with which its evaluation was aborted.
func evaluated(l []api.Part, v evaluator) (text string, e api.Errno) {
	defer func() {
		if aborted := recover(); aborted != nil {
			text, e = "", aborted.(api.Errno)
		}
	}()
	var out output
	v.parts(l, 0, out.add)
	return out.text.String(), api.OK
}

// output collects what the parts of a pattern answer.
type output struct{ text strings.Builder }

func (o *output) add(s string) {
	if o.text.Len()+len(s) > api.MaxText {
		panic(api.ErrLong)
	}
	o.text.WriteString(s)
}

// evaluator evaluates the parts of a valid pattern. It panics with the first error, so that nothing behind it is evaluated.
type evaluator struct {
	language string
	args     []api.Arg
}

// parts adds the outputs of parts in order; hash is the number of the innermost plural around them.
func (v evaluator) parts(l []api.Part, hash int64, add func(string)) {
	for _, part := range l {
		switch part.Kind {
		case api.PText:
			add(part.Text)
		case api.PArg:
			add(value(v.argument(part.Name)))
		case api.PHash:
			add(digits(hash))
		case api.PPlural:
			n := v.number(part.Name)
			// No key has a sign, so that none is equal to that of a negative number.
			v.parts(chosen(part.Cases, "="+digits(n), plural.Category(v.language, n), other), n, add)
		case api.PSelect:
			v.parts(chosen(part.Cases, v.word(part.Name), other), hash, add)
		}
	}
}

// number answers the number of an argument that must be one.
func (v evaluator) number(name string) int64 {
	arg := v.argument(name)
	if !arg.IsNum {
		panic(api.ErrType)
	}
	return arg.N
}

// word answers the string of an argument that must be one.
func (v evaluator) word(name string) string {
	arg := v.argument(name)
	if arg.IsNum {
		panic(api.ErrType)
	}
	return arg.S
}

func (v evaluator) argument(name string) api.Arg {
	for _, arg := range v.args {
		if arg.Name == name {
			return arg
		}
	}
	panic(api.ErrMissing)
}

// value answers what an argument is written as.
func value(arg api.Arg) string {
	if arg.IsNum {
		return digits(arg.N)
	}
	return arg.S
}

func digits(n int64) string { return strconv.FormatInt(n, 10) }

// chosen answers the parts of the case that has the first of the keys that any case has.
func chosen(cases []api.Case, keys ...string) []api.Part {
	for _, key := range keys {
		for _, branch := range cases {
			if branch.Key == key {
				return branch.Kids
			}
		}
	}
	return nil
}
