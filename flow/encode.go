package flow

import (
	"sluice/address"
	"sluice/api"
)

// Encode writes a rule (P4).
func Encode(r api.Rule) (string, api.Errno) {
	if !isRule(r) {
		return "", api.ErrRule
	}
	s := ""
	for _, part := range r.Parts {
		s += writePart(part)
	}
	return s, api.OK
}

func isRule(r api.Rule) bool {
	before := 0
	for _, part := range r.Parts {
		if part.Type <= before || !isPart(part) {
			return false
		}
		before = part.Type
	}
	return len(r.Parts) > 0
}

func isPart(p api.Part) bool {
	if hasPrefix(p.Type) {
		return len(p.Terms) == 0 && address.IsPrefix(p.Prefix)
	}
	if hasTerms(p.Type) {
		return p.Prefix.Bits == 0 && p.Prefix.Len == 0 && areTerms(p.Terms, p.Type)
	}
	return false
}

func areTerms(terms []api.Term, kind int) bool {
	if len(terms) < 1 || len(terms) > api.MaxTerms {
		return false
	}
	for i, term := range terms {
		if term.And && i == 0 {
			return false
		}
		if !isTerm(term, kind) {
			return false
		}
	}
	return true
}

func isTerm(t api.Term, kind int) bool {
	if t.Wide && kind == api.Flags {
		return false
	}
	return isNumber(t.Op, opMarks(kind)) && isNumber(t.Value, maxValue(t.Wide))
}

// The writers below are handed only parts of a rule: what isRule let pass, or what Decode answered.

func writePart(p api.Part) string {
	s := writeNumber(p.Type, 1)
	if hasPrefix(p.Type) {
		return s + writePrefix(p.Prefix)
	}
	for i, term := range p.Terms {
		s += writeTerm(term, i == len(p.Terms)-1)
	}
	return s
}

func writePrefix(p api.Prefix) string {
	count := prefixBytes(p.Len)
	bits := p.Bits
	if count == 1 {
		bits = bits / (maxByte + 1)
	}
	return writeNumber(p.Len, 1) + writeNumber(bits, count)
}

func writeTerm(t api.Term, last bool) string {
	marks := t.Op
	if t.And {
		marks |= api.And
	}
	if t.Wide {
		marks |= api.Wide
	}
	if last {
		marks |= api.Last
	}
	return writeNumber(marks, 1) + writeNumber(t.Value, valueBytes(t.Wide))
}

// writeNumber writes a number as so many bytes, the high one first.
func writeNumber(number int, count int) string {
	s := ""
	for i := 0; i < count; i++ {
		s = string([]byte{byte(number & maxByte)}) + s
		number = number / (maxByte + 1)
	}
	return s
}
