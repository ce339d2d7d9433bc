package model

import (
	"slices"

	"hornbook/api"
	"hornbook/catalog"
)

// state is a valid model, and where its clients are. Its methods get a copy, change it and answer it: they write to no list that the copy shares with its original.
type state struct {
	api.Model
	places map[int]int // from a client's ID to its position in Clients
}

// stateOf answers the state of a model, without any memory that it shares with it.
func stateOf(m api.Model) state {
	s := state{Model: m, places: map[int]int{}}
	s.Entries, s.Clients = slices.Clone(m.Entries), slices.Clone(m.Clients)
	for at, client := range s.Clients {
		s.places[client.ID] = at
	}
	return s
}

// executed answers the state behind a valid command, and the result.
func (s state) executed(c api.Command) (state, api.Client) {
	at, known := s.places[c.Client]
	switch {
	case known && s.Clients[at].Seq == c.Seq:
		return s, s.Clients[at]
	case known && s.Clients[at].Seq > c.Seq:
		return s, refusal(c, api.ErrStale)
	case !known && len(s.Clients) == api.MaxClients:
		return s, refusal(c, api.ErrFull)
	}
	s, answer := s.changed(c.Changes)
	result := api.Client{ID: c.Client, Seq: c.Seq, Answer: answer, Version: s.Version}
	return s.storing(result), result
}

// refusal answers the result of a command that is not stored.
func refusal(c api.Command, answer api.Errno) api.Client {
	return api.Client{ID: c.Client, Seq: c.Seq, Answer: answer}
}

// changed answers the state whose catalog is changed, or the same one and why it cannot be.
func (s state) changed(changes []api.Change) (state, api.Errno) {
	entries, e := catalog.Apply(s.Entries, changes)
	if e != api.OK {
		return s, e
	}
	if _, e := catalog.Bytes(entries); e != api.OK {
		return s, e
	}
	if s.Version == most {
		return s, api.ErrFull
	}
	s.Entries = entries
	s.Version++
	return s, api.OK
}

// storing answers the state that has a result stored for its client, who may be a new one.
func (s state) storing(result api.Client) state {
	if at, known := s.places[result.ID]; known {
		s.Clients = slices.Clone(s.Clients)
		s.Clients[at] = result
		return s
	}
	at := 0
	for at < len(s.Clients) && s.Clients[at].ID < result.ID {
		at++
	}
	s.Clients = slices.Concat(s.Clients[:at], []api.Client{result}, s.Clients[at:])
	// The clients behind the new one have moved.
	return stateOf(s.Model)
}
