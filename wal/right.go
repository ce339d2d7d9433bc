package wal

import "hornbook/api"

const (
	most     = 1 << 30 // of a term and of an index
	mostData = 8192    // bytes of a record
)

// rightParts tells whether a state is valid, but for the length of its encoding.
func rightParts(h api.Hard) bool {
	return within(h.Term, 0, most) && within(h.Vote, 0, api.MaxID) && rightLog(h.Log, h.Term) && rightVoters(h.Voters)
}

// rightLog tells whether a state of a term may have a log.
func rightLog(l api.Log, term int) bool {
	if !within(l.Base, 0, most) || !within(l.BaseTerm, 0, term) || (l.BaseTerm == 0) != (l.Base == 0) {
		return false
	}
	if len(l.Records) > min(api.MaxLog, most-l.Base) {
		return false
	}
	least := max(l.BaseTerm, 1)
	for _, record := range l.Records {
		if !within(record.Term, least, term) || !within(record.Kind, api.KNoop, api.KConf) || len(record.Data) > mostData {
			return false
		}
		least = record.Term
	}
	return true
}

func rightVoters(voters []int) bool {
	if len(voters) > api.MaxVoters {
		return false
	}
	least := 1
	for _, id := range voters {
		if !within(id, least, api.MaxID) {
			return false
		}
		least = id + 1
	}
	return true
}

// within tells whether a number is one from lo to hi.
func within(n, lo, hi int) bool { return n >= lo && n <= hi }
