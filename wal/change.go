package wal

import (
	"slices"

	"hornbook/api"
	"hornbook/code"
	"hornbook/frame"
)

// change turns a state into one with that term and vote, whose log has the records up to the index keep, and then these.
type change struct {
	term, vote, keep int
	records          []api.Record
}

// difference answers the frame of the change that turns a state into another one, if a change can, and if it fits into a frame.
func difference(old, now api.Hard) (string, bool) {
	if !alike(old, now) {
		return "", false
	}
	n := common(old.Log.Records, now.Log.Records)
	c := change{term: now.Term, vote: now.Vote, keep: now.Log.Base + n, records: now.Log.Records[n:]}
	body, e := code.Put(changeValue(c))
	if e != api.OK {
		return "", false
	}
	bytes, e := frame.Put(body)
	return bytes, e == api.OK
}

// common answers how many records two lists begin with alike.
func common(a, b []api.Record) int {
	n := 0
	for n < len(a) && n < len(b) && a[n] == b[n] {
		n++
	}
	return n
}

// alike tells whether two states are the same in what a change leaves as it is.
func alike(a, b api.Hard) bool {
	return a.Log.Base == b.Log.Base && a.Log.BaseTerm == b.Log.BaseTerm && a.Snap == b.Snap && slices.Equal(a.Voters, b.Voters)
}

// same tells whether two states are equal.
func same(a, b api.Hard) bool {
	return a.Term == b.Term && a.Vote == b.Vote && alike(a, b) && slices.Equal(a.Log.Records, b.Log.Records)
}

// changed answers the state that a change makes of a valid one, if that is valid as well.
func changed(h api.Hard, c change) (api.Hard, bool) {
	n := c.keep - h.Log.Base
	if !within(n, 0, len(h.Log.Records)) {
		return api.Hard{}, false
	}
	h.Term, h.Vote = c.term, c.vote
	h.Log.Records = slices.Concat(h.Log.Records[:n], c.records)
	return h, Right(h)
}
