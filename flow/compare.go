package flow

import (
	"sluice/address"
	"sluice/api"
)

// Compare tells which of two rules goes first (P6).
func Compare(a string, b string) (int, api.Errno) {
	one, e := Decode(a)
	if e != api.OK {
		return 0, e
	}
	other, e := Decode(b)
	if e != api.OK {
		return 0, e
	}
	return compareParts(one.Parts, other.Parts), api.OK
}

// compareParts puts a rule that has no part at some place behind one that has: it says less.
func compareParts(a []api.Part, b []api.Part) int {
	for i, part := range a {
		if i >= len(b) {
			return -1
		}
		order := comparePart(part, b[i])
		if order != 0 {
			return order
		}
	}
	if len(a) < len(b) {
		return 1
	}
	return 0
}

func comparePart(a api.Part, b api.Part) int {
	if a.Type != b.Type {
		return lowerFirst(a.Type, b.Type)
	}
	if hasPrefix(a.Type) {
		return comparePrefixes(a.Prefix, b.Prefix)
	}
	return compareBytes(writePart(a), writePart(b))
}

func comparePrefixes(a api.Prefix, b api.Prefix) int {
	if address.Covers(a, b) || address.Covers(b, a) {
		return lowerFirst(b.Len, a.Len)
	}
	return lowerFirst(a.Bits, b.Bits)
}

// compareBytes needs no word for bytes that end earlier: no part's bytes begin another's, as Last stands in the last term alone.
func compareBytes(a string, b string) int {
	for i := 0; i < len(a) && i < len(b); i++ {
		if a[i] != b[i] {
			return lowerFirst(int(a[i]), int(b[i]))
		}
	}
	return 0
}

func lowerFirst(a int, b int) int {
	if a < b {
		return -1
	}
	if a > b {
		return 1
	}
	return 0
}
