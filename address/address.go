// Package address: prefixes of addresses, which rules and routes name alike.
package address

import "sluice/api"

const (
	bits = 16
	most = 1<<bits - 1
)

// IsPrefix tells whether the length is one, and the bits are a number whose bits behind the length are 0.
func IsPrefix(p api.Prefix) bool {
	if p.Len < 0 || p.Len > bits || p.Bits < 0 || p.Bits > most {
		return false
	}
	return p.Bits&BitsBehind(p.Len) == 0
}

// BitsBehind tells the bits of an address that lie behind a prefix of this length. It looks at the length itself, so that the shift stands at every number.
func BitsBehind(length int) int {
	if length < 0 || length > bits {
		return 0
	}
	return 1<<(bits-length) - 1
}

// LiesIn tells whether a number of 16 bits lies in a prefix.
func LiesIn(number int, p api.Prefix) bool {
	return number&^BitsBehind(p.Len) == p.Bits
}

// Covers looks at the other's Bits alone: all that lies in a prefix that is not shorter begins with the same a.Len bits as they do.
func Covers(a api.Prefix, b api.Prefix) bool {
	return a.Len <= b.Len && LiesIn(b.Bits, a)
}
