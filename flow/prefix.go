package flow

import "sluice/api"

const addressBits = 16

func isPrefix(p api.Prefix) bool {
	if !isNumber(p.Len, addressBits) || !isNumber(p.Bits, maxWide) {
		return false
	}
	return p.Bits&bitsBehind(p.Len) == 0
}

// bitsBehind tells the bits of an address that lie behind a prefix of this length. It looks at the length itself, so that the shift stands at every number.
func bitsBehind(length int) int {
	if !isNumber(length, addressBits) {
		return 0
	}
	return 1<<(addressBits-length) - 1
}

func liesIn(number int, p api.Prefix) bool {
	return number&^bitsBehind(p.Len) == p.Bits
}

// covers looks at the other's Bits alone: all that lies in a prefix that is not shorter begins with the same a.Len bits as they do.
func covers(a api.Prefix, b api.Prefix) bool {
	return a.Len <= b.Len && liesIn(b.Bits, a)
}
