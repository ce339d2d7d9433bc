package wal

import "hornbook/api"

func list(kids ...api.Val) api.Val { return api.Val{Kind: api.List, L: kids} }
func number(n int) api.Val         { return api.Val{Kind: api.Num, N: int64(n)} }
func text(s string) api.Val        { return api.Val{Kind: api.Text, S: s} }

func stateValue(h api.Hard) api.Val {
	voters := listed(h.Voters, number)
	records := listed(h.Log.Records, recordValue)
	return list(number(h.Term), number(h.Vote), number(h.Log.Base), number(h.Log.BaseTerm), text(h.Snap), voters, records)
}

func changeValue(c change) api.Val {
	return list(number(c.term), number(c.vote), number(c.keep), listed(c.records, recordValue))
}

func recordValue(r api.Record) api.Val {
	return list(number(r.Term), number(r.Kind), text(r.Data))
}

// listed answers the List of what each item is written as.
func listed[T any](items []T, value func(T) api.Val) api.Val {
	kids := make([]api.Val, len(items))
	for i, item := range items {
		kids[i] = value(item)
	}
	return list(kids...)
}

// The functions below answer what a value of package code tells, and whether it has the form: whether what it tells is valid is for Right.

func toldState(v api.Val) (api.Hard, bool) {
	// A Num or a Text has no elements, so that only a List has any.
	if len(v.L) != 7 || v.L[4].Kind != api.Text {
		return api.Hard{}, false
	}
	n, numbersOK := each(v.L[:4], toldNumber)
	voters, votersOK := toldList(v.L[5], toldNumber)
	records, recordsOK := toldList(v.L[6], toldRecord)
	if !numbersOK || !votersOK || !recordsOK {
		return api.Hard{}, false
	}
	l := api.Log{Base: n[2], BaseTerm: n[3], Records: records}
	return api.Hard{Term: n[0], Vote: n[1], Log: l, Snap: v.L[4].S, Voters: voters}, true
}

func toldChange(v api.Val) (change, bool) {
	if len(v.L) != 4 {
		return change{}, false
	}
	n, numbersOK := each(v.L[:3], toldNumber)
	records, recordsOK := toldList(v.L[3], toldRecord)
	if !numbersOK || !recordsOK {
		return change{}, false
	}
	return change{term: n[0], vote: n[1], keep: n[2], records: records}, true
}

func toldRecord(v api.Val) (api.Record, bool) {
	if len(v.L) != 3 || v.L[2].Kind != api.Text {
		return api.Record{}, false
	}
	n, ok := each(v.L[:2], toldNumber)
	if !ok {
		return api.Record{}, false
	}
	return api.Record{Term: n[0], Kind: n[1], Data: v.L[2].S}, true
}

// toldNumber answers a number that a state may have at all: what is greater need not fit into an int.
func toldNumber(v api.Val) (int, bool) {
	if v.Kind != api.Num || v.N < 0 || v.N > most {
		return 0, false
	}
	return int(v.N), true
}

// toldList answers what each element of a List tells.
func toldList[T any](v api.Val, told func(api.Val) (T, bool)) ([]T, bool) {
	if v.Kind != api.List {
		return nil, false
	}
	return each(v.L, told)
}

// each answers what each value tells, if all of them have the form.
func each[T any](l []api.Val, told func(api.Val) (T, bool)) ([]T, bool) {
	var items []T
	for _, v := range l {
		item, ok := told(v)
		if !ok {
			return nil, false
		}
		items = append(items, item)
	}
	return items, true
}
