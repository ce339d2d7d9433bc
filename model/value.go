package model

import (
	"hornbook/api"
	"hornbook/code"
)

// PutCommand writes a command as bytes.
func PutCommand(c api.Command) (string, api.Errno) {
	if !May(c) {
		return "", api.ErrCommand
	}
	v := list(number(c.Client), number(c.Seq))
	for _, change := range c.Changes {
		v.L = append(v.L, changeValue(change))
	}
	return code.Put(v)
}

// GetCommand reads the command that PutCommand has written.
func GetCommand(s string) (api.Command, api.Errno) {
	v, e, _ := code.Get(s)
	if e != api.OK {
		return api.Command{}, e
	}
	c, ok := toldCommand(v)
	if !ok || !May(c) {
		return api.Command{}, api.ErrCommand
	}
	return c, api.OK
}

// PutModel writes a model as bytes.
func PutModel(m api.Model) (string, api.Errno) {
	if !Right(m) {
		return "", api.ErrArg
	}
	entries, clients := list(), list()
	for _, entry := range m.Entries {
		entries.L = append(entries.L, list(texts(entry)...))
	}
	for _, client := range m.Clients {
		clients.L = append(clients.L, clientValue(client))
	}
	return code.Put(list(number(m.Version), entries, clients))
}

// GetModel reads the model that PutModel has written.
func GetModel(s string) (api.Model, api.Errno) {
	v, e, _ := code.Get(s)
	if e != api.OK {
		return api.Model{}, e
	}
	m, ok := toldModel(v)
	if !ok || !Right(m) {
		return api.Model{}, api.ErrArg
	}
	return m, api.OK
}

func list(kids ...api.Val) api.Val { return api.Val{Kind: api.List, L: kids} }
func number(n int) api.Val         { return api.Val{Kind: api.Num, N: int64(n)} }
func text(s string) api.Val        { return api.Val{Kind: api.Text, S: s} }

// texts answers the values that an entry is written as, alone or in a change.
func texts(entry api.Entry) []api.Val {
	return []api.Val{text(entry.Locale), text(entry.Key), text(entry.Pattern)}
}

func changeValue(change api.Change) api.Val {
	drop := number(0)
	if change.Drop {
		drop = number(1)
	}
	return list(append([]api.Val{drop}, texts(change.Entry)...)...)
}

func clientValue(client api.Client) api.Val {
	return list(number(client.ID), number(client.Seq), number(int(client.Answer)), number(client.Version))
}

// The functions below answer what a value of package code tells, and whether it has the form: whether what it tells is valid is for May and Right.

func toldCommand(v api.Val) (api.Command, bool) {
	// A Num or a Text has no elements, so that only a List has any.
	if len(v.L) < 2 {
		return api.Command{}, false
	}
	head, headOK := each(v.L[:2], toldNumber)
	changes, changesOK := each(v.L[2:], toldChange)
	if !headOK || !changesOK {
		return api.Command{}, false
	}
	return api.Command{Client: head[0], Seq: head[1], Changes: changes}, true
}

func toldChange(v api.Val) (api.Change, bool) {
	if len(v.L) != 4 {
		return api.Change{}, false
	}
	drop, dropOK := toldNumber(v.L[0])
	entry, entryOK := toldTexts(v.L[1:])
	return api.Change{Drop: drop == 1, Entry: entry}, dropOK && drop <= 1 && entryOK
}

func toldModel(v api.Val) (api.Model, bool) {
	if len(v.L) != 3 || v.L[1].Kind != api.List || v.L[2].Kind != api.List {
		return api.Model{}, false
	}
	version, versionOK := toldNumber(v.L[0])
	entries, entriesOK := each(v.L[1].L, func(v api.Val) (api.Entry, bool) { return toldTexts(v.L) })
	clients, clientsOK := each(v.L[2].L, toldClient)
	return api.Model{Version: version, Entries: entries, Clients: clients}, versionOK && entriesOK && clientsOK
}

func toldClient(v api.Val) (api.Client, bool) {
	n, ok := each(v.L, toldNumber)
	if !ok || len(n) != 4 {
		return api.Client{}, false
	}
	return api.Client{ID: n[0], Seq: n[1], Answer: api.Errno(n[2]), Version: n[3]}, true
}

// toldTexts answers the entry whose texts are values.
func toldTexts(l []api.Val) (api.Entry, bool) {
	if len(l) != 3 || l[0].Kind != api.Text || l[1].Kind != api.Text || l[2].Kind != api.Text {
		return api.Entry{}, false
	}
	return api.Entry{Locale: l[0].S, Key: l[1].S, Pattern: l[2].S}, true
}

// toldNumber answers a number that a command or a model may have at all: what is greater need not fit into an int.
func toldNumber(v api.Val) (int, bool) {
	if v.Kind != api.Num || v.N < 0 || v.N > most {
		return 0, false
	}
	return int(v.N), true
}

// each answers what each value of a list tells, if all of them have the form.
func each[T any](l []api.Val, told func(api.Val) (T, bool)) ([]T, bool) {
	var items []T
	for _, v := range l {
		item, ok := told(v)
		if !ok {
			return nil, false
		}
		items = append(items, item)
	}
	return items, true
}
