package flow

import (
	"sluice/address"
	"sluice/api"
	"sluice/packet"
)

// Match tells whether a rule speaks of a packet (P5).
func Match(s string, h api.Header) (bool, api.Errno) {
	r, e := Decode(s)
	if e != api.OK {
		return false, e
	}
	if !packet.IsHeader(h) {
		return false, api.ErrHeader
	}
	for _, part := range r.Parts {
		if !partMatches(part, h) {
			return false, api.OK
		}
	}
	return true, api.OK
}

func partMatches(p api.Part, h api.Header) bool {
	number, has := packet.Field(h, p.Type)
	if !has {
		return false
	}
	if hasPrefix(p.Type) {
		return address.LiesIn(number, p.Prefix)
	}
	return someGroupHolds(p.Terms, p.Type, number)
}

// someGroupHolds goes through the terms once: holds tells of the group begun last whether all its terms so far hold.
func someGroupHolds(terms []api.Term, kind int, number int) bool {
	holds := false
	for _, term := range terms {
		if !term.And {
			if holds {
				return true
			}
			holds = true
		}
		holds = holds && termHolds(term, kind, number)
	}
	return holds
}

func termHolds(t api.Term, kind int, number int) bool {
	if kind == api.Flags {
		return flagsHold(t, number)
	}
	below := t.Op&api.Below != 0 && number < t.Value
	above := t.Op&api.Above != 0 && number > t.Value
	equal := t.Op&api.Equal != 0 && number == t.Value
	return below || above || equal
}

func flagsHold(t api.Term, flags int) bool {
	both := flags & t.Value
	holds := both != 0
	if t.Op&api.Every != 0 {
		holds = both == t.Value
	}
	if t.Op&api.Not != 0 {
		return !holds
	}
	return holds
}
