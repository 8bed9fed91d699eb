// Package packet: the header of a packet, which rules match and entries fit.
package packet

import "sluice/api"

const (
	maxNarrow = 1<<8 - 1
	maxWide   = 1<<16 - 1
)

// IsHeader looks at port and flags of a later fragment too: they mean nothing there, but must be numbers.
func IsHeader(h api.Header) bool {
	for kind := api.Dst; kind <= api.Flags; kind++ {
		number, _ := Field(h, kind)
		if number < 0 || number > MaxField(kind) {
			return false
		}
	}
	return true
}

// Field tells the field that parts of a type look at, and whether the header has it.
func Field(h api.Header, kind int) (int, bool) {
	switch kind {
	case api.Dst:
		return h.Dst, true
	case api.Src:
		return h.Src, true
	case api.Proto:
		return h.Proto, true
	case api.Port:
		return h.Port, !h.Later
	case api.Flags:
		return h.Flags, !h.Later
	}
	return 0, false
}

// MaxField tells the greatest number of the field that parts of a type look at.
func MaxField(kind int) int {
	if kind == api.Proto || kind == api.Flags {
		return maxNarrow
	}
	return maxWide
}

// Bits tells the header's bits. Those of port and flags are told of a later fragment too: no cube that looks at them fits it, as its last character is 0.
func Bits(h api.Header) string {
	s := ""
	for kind := api.Dst; kind <= api.Flags; kind++ {
		number, _ := Field(h, kind)
		s += writeBits(number, MaxField(kind))
	}
	if h.Later {
		return s + "1"
	}
	return s + "0"
}

// writeBits goes through the weights of a field's bits, the highest first.
func writeBits(number int, most int) string {
	s := ""
	for weight := (most + 1) / 2; weight > 0; weight = weight / 2 {
		if number&weight != 0 {
			s += "1"
		} else {
			s += "0"
		}
	}
	return s
}

// Fits tells whether a cube fits the header that has these bits.
func Fits(cube string, bits string) bool {
	if len(cube) != len(bits) {
		return false
	}
	for i := 0; i < len(cube); i++ {
		if cube[i] != '*' && cube[i] != bits[i] {
			return false
		}
	}
	return true
}
