package wal

import (
	"slices"
	"strings"

	"hornbook/api"
	"hornbook/code"
	"hornbook/disk"
	"hornbook/frame"
)

const (
	current = "log"
	fresh   = "log.new"
	piece   = 60000 // bytes of a state in one frame
)

// call is a call on a disk that names a file, and passes bytes or another name.
type call struct {
	function   func(d api.Disk, name, with string) (api.Disk, api.Errno)
	name, with string
}

// on makes the call on a disk that is valid and not Down, and answers the disk behind it.
func (c call) on(d api.Disk) (after api.Disk, e api.Errno) {
	// A call that is refused answers no disk, and only one in which the power fails answers ErrDown here.
	defer func() {
		if e != api.OK && e != api.ErrDown {
			after = d
		}
	}()
	return c.function(d, c.name, c.with)
}

func syncFile(d api.Disk, name, _ string) (api.Disk, api.Errno)   { return disk.Sync(d, name) }
func removeFile(d api.Disk, name, _ string) (api.Disk, api.Errno) { return disk.Remove(d, name) }

// has tells whether a disk that is valid and not Down has a file.
func has(d api.Disk, name string) bool {
	_, e := disk.Read(d, name)
	return e == api.OK
}

// extend puts bytes behind the file log.
func extend(d api.Disk, bytes string) (api.Disk, api.Errno) {
	after, e := call{disk.Write, current, bytes}.on(d)
	if e != api.OK {
		return after, e
	}
	return call{syncFile, current, ""}.on(after)
}

// rewrite puts a file with the image of a valid state, and nothing else, in place of the file log.
func rewrite(d api.Disk, h api.Hard) (api.Disk, api.Errno) {
	var e api.Errno
	if has(d, fresh) {
		if d, e = (call{removeFile, fresh, ""}).on(d); e != api.OK {
			return d, e
		}
	}
	// The old file stays until the new one lasts, so that there is a whole one at any time.
	calls := [...]call{
		{disk.Write, fresh, frames(image(h))},
		{syncFile, fresh, ""},
		{disk.Rename, fresh, current},
	}
	for _, c := range calls {
		if d, e = c.on(d); e != api.OK {
			return d, e
		}
	}
	return d, api.OK
}

// image answers the bodies of the frames that are the image of a valid state.
func image(h api.Hard) []string {
	// Neither a valid state nor a number has an encoding that is too long: no error is to be looked at.
	rest, _ := Put(h)
	var pieces []string
	for ; len(rest) > piece; rest = rest[piece:] {
		pieces = append(pieces, rest[:piece])
	}
	pieces = append(pieces, rest)
	head, _ := code.Put(number(len(pieces)))
	return slices.Insert(pieces, 0, head)
}

// frames answers the frames of bodies, each of which fits into one.
func frames(bodies []string) string {
	var b strings.Builder
	for _, body := range bodies {
		bytes, _ := frame.Put(body)
		b.WriteString(bytes)
	}
	return b.String()
}

// replayed answers the state that the bodies of a file log tell, if they tell one.
func replayed(bodies []string) (api.Hard, bool) {
	h, n := imaged(bodies)
	if n == 0 {
		return api.Hard{}, false
	}
	for _, body := range bodies[n:] {
		// Beside an error there is no value, which does not have the form.
		v, _, _ := code.Get(body)
		c, ok := toldChange(v)
		if !ok {
			return api.Hard{}, false
		}
		if h, ok = changed(h, c); !ok {
			return api.Hard{}, false
		}
	}
	return h, true
}

// imaged answers the state whose image bodies begin with, and how many of them are the image: none, if there is no such state.
func imaged(bodies []string) (api.Hard, int) {
	if len(bodies) == 0 {
		return api.Hard{}, 0
	}
	// Beside an error there is no value, which is no number.
	v, _, _ := code.Get(bodies[0])
	k, ok := toldNumber(v)
	if !ok || k >= len(bodies) {
		return api.Hard{}, 0
	}
	h, e := Get(strings.Join(bodies[1:1+k], ""))
	// A state has one image: what has another number, or is split elsewhere, is none.
	if e != api.OK || !slices.Equal(image(h), bodies[:1+k]) {
		return api.Hard{}, 0
	}
	return h, 1 + k
}
