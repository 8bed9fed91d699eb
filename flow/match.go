package flow

import (
	"sluice/address"
	"sluice/api"
)

// Match tells whether a rule speaks of a packet (P5).
func Match(s string, h api.Header) (bool, api.Errno) {
	r, e := Decode(s)
	if e != api.OK {
		return false, e
	}
	if !isHeader(h) {
		return false, api.ErrHeader
	}
	for _, part := range r.Parts {
		if !partMatches(part, h) {
			return false, api.OK
		}
	}
	return true, api.OK
}

// isHeader looks at port and flags of a later fragment too: they mean nothing there, but must be numbers.
func isHeader(h api.Header) bool {
	for kind := api.Dst; kind <= api.Flags; kind++ {
		number, _ := fieldOf(h, kind)
		if !isNumber(number, maxField(kind)) {
			return false
		}
	}
	return true
}

func partMatches(p api.Part, h api.Header) bool {
	number, has := fieldOf(h, p.Type)
	if !has {
		return false
	}
	if hasPrefix(p.Type) {
		return address.LiesIn(number, p.Prefix)
	}
	return someGroupHolds(p.Terms, p.Type, number)
}

// fieldOf tells the field that parts of a type look at, and whether the header has it.
func fieldOf(h api.Header, kind int) (int, bool) {
	switch kind {
	case api.Dst:
		return h.Dst, true
	case api.Src:
		return h.Src, true
	case api.Proto:
		return h.Proto, true
	case api.Port:
		return h.Port, !h.Later
	case api.Flags:
		return h.Flags, !h.Later
	}
	return 0, false
}

// someGroupHolds goes through the terms once: holds tells of the group begun last whether all its terms so far hold.
func someGroupHolds(terms []api.Term, kind int, number int) bool {
	holds := false
	for _, term := range terms {
		if !term.And {
			if holds {
				return true
			}
			holds = true
		}
		holds = holds && termHolds(term, kind, number)
	}
	return holds
}

func termHolds(t api.Term, kind int, number int) bool {
	if kind == api.Flags {
		return flagsHold(t, number)
	}
	below := t.Op&api.Below != 0 && number < t.Value
	above := t.Op&api.Above != 0 && number > t.Value
	equal := t.Op&api.Equal != 0 && number == t.Value
	return below || above || equal
}

func flagsHold(t api.Term, flags int) bool {
	both := flags & t.Value
	holds := both != 0
	if t.Op&api.Every != 0 {
		holds = both == t.Value
	}
	if t.Op&api.Not != 0 {
		return !holds
	}
	return holds
}
