// Package code is layer 1: it writes values as bytes and reads them, so that each value has one encoding alone. See shared/doc/01-code.md.
package code

import (
	"math"
	"strconv"
	"strings"

	"hornbook/api"
)

// Right tells whether a value may be: ErrLong, ErrDeep and ErrArg, in this order, tell why not.
func Right(v api.Val) api.Errno {
	count, deepest, formed := 0, 0, true
	var visit func(v api.Val, level int)
	visit = func(v api.Val, level int) {
		count++
		deepest = max(deepest, level)
		formed = formed && wellFormed(v)
		for _, kid := range v.L {
			// Lists that share or contain themselves unfold without end: the count bounds the walk.
			if count > api.MaxVals {
				return
			}
			visit(kid, level+1)
		}
	}
	visit(v, 1)
	switch {
	case count > api.MaxVals:
		return api.ErrLong
	case deepest > api.MaxDeep:
		return api.ErrDeep
	case !formed:
		return api.ErrArg
	}
	return api.OK
}

// wellFormed looks at the value alone, not at its elements.
func wellFormed(v api.Val) bool {
	switch v.Kind {
	case api.Num:
		return v.S == "" && len(v.L) == 0
	case api.Text:
		return v.N == 0 && len(v.L) == 0
	case api.List:
		return v.N == 0 && v.S == ""
	}
	return false
}

// Put writes a value as bytes.
func Put(v api.Val) (string, api.Errno) {
	if e := Right(v); e != api.OK {
		return "", e
	}
	var out strings.Builder
	fits := true
	// Texts may be far longer than MaxBytes, so what does not fit is never collected.
	add := func(s string) {
		fits = fits && len(s) <= api.MaxBytes-out.Len()
		if fits {
			out.WriteString(s)
		}
	}
	var write func(v api.Val)
	write = func(v api.Val) {
		switch v.Kind {
		case api.Num:
			add("i")
			add(strconv.FormatInt(v.N, 10))
			add("e")
		case api.Text:
			add(strconv.Itoa(len(v.S)))
			add(":")
			add(v.S)
		case api.List:
			add("l")
			for _, kid := range v.L {
				write(kid)
			}
			add("e")
		}
	}
	write(v)
	if !fits {
		return "", api.ErrLong
	}
	return out.String(), api.OK
}

// Get reads the value that a string encodes: or the first error from the left, and its offset.
func Get(s string) (api.Val, api.Errno, int) {
	if len(s) > api.MaxBytes {
		return api.Val{}, api.ErrLong, 0
	}
	count := 0
	// Beside OK, the number that read answers is the offset behind the value.
	var read func(at, level int) (api.Val, api.Errno, int)
	read = func(at, level int) (api.Val, api.Errno, int) {
		count++
		if e := begin(s, at, level, count); e != api.OK {
			return api.Val{}, e, at
		}
		switch s[at] {
		case 'i':
			return number(s, at+1)
		case 'l':
			return list(s, at+1, func(at int) (api.Val, api.Errno, int) { return read(at, level+1) })
		}
		return text(s, at)
	}
	v, e, at := read(0, 1)
	if e != api.OK {
		return api.Val{}, e, at
	}
	if at < len(s) {
		return api.Val{}, api.ErrByte, at
	}
	return v, api.OK, 0
}

// begin tells whether the count-th value, on that level, may begin at an offset.
func begin(s string, at, level, count int) api.Errno {
	switch {
	case at >= len(s):
		return api.ErrEnd
	case s[at] != 'i' && s[at] != 'l' && !isDigit(s[at]):
		return api.ErrByte
	case level > api.MaxDeep:
		return api.ErrDeep
	case count > api.MaxVals:
		return api.ErrLong
	}
	return api.OK
}

// number reads what is behind the i of a Num.
func number(s string, at int) (api.Val, api.Errno, int) {
	most := uint64(math.MaxInt64)
	minus := at < len(s) && s[at] == '-'
	if minus {
		at++
		most++
		if at < len(s) && s[at] == '0' {
			return api.Val{}, api.ErrByte, at
		}
	}
	n, e, at := decimal(s, at, most, 'e')
	if e != api.OK {
		return api.Val{}, e, at
	}
	if minus {
		// Wrap-around also makes the least integer, whose negation int64 does not have.
		n = -n
	}
	return api.Val{Kind: api.Num, N: int64(n)}, api.OK, at
}

// text reads a Text, from its length on.
func text(s string, at int) (api.Val, api.Errno, int) {
	n, e, at := decimal(s, at, api.MaxBytes, ':')
	if e != api.OK {
		return api.Val{}, e, at
	}
	end := at + int(n)
	if end > len(s) {
		return api.Val{}, api.ErrEnd, len(s)
	}
	return api.Val{Kind: api.Text, S: s[at:end]}, api.OK, end
}

// list reads what is behind the l of a List, its elements by the function that is given.
func list(s string, at int, element func(at int) (api.Val, api.Errno, int)) (api.Val, api.Errno, int) {
	var kids []api.Val
	for at >= len(s) || s[at] != 'e' {
		kid, e, next := element(at)
		if e != api.OK {
			return api.Val{}, e, next
		}
		kids = append(kids, kid)
		at = next
	}
	return api.Val{Kind: api.List, L: kids}, api.OK, at + 1
}

// decimal reads digits of a number up to most, without a leading zero, and the byte that ends them.
func decimal(s string, at int, most uint64, end byte) (uint64, api.Errno, int) {
	n := uint64(0)
	for i := at; i < len(s); i++ {
		first := i == at
		if s[i] == end && !first {
			return n, api.OK, i + 1
		}
		if !isDigit(s[i]) || n == 0 && !first {
			return 0, api.ErrByte, i
		}
		d := uint64(s[i] - '0')
		if n > (most-d)/10 {
			return 0, api.ErrByte, i
		}
		n = n*10 + d
	}
	return 0, api.ErrEnd, len(s)
}

func isDigit(c byte) bool { return '0' <= c && c <= '9' }
