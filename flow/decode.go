package flow

import (
	"sluice/address"
	"sluice/api"
)

// Decode reads a rule (P3).
func Decode(s string) (api.Rule, api.Errno) {
	var parts []api.Part
	before := 0
	at := 0
	for at < len(s) {
		part, next, ok := readPart(s, at)
		if !ok || part.Type <= before {
			return api.Rule{}, api.ErrForm
		}
		parts = append(parts, part)
		before = part.Type
		at = next
	}
	if len(parts) == 0 {
		return api.Rule{}, api.ErrForm
	}
	return api.Rule{Parts: parts}, api.OK
}

// readPart reads the part that begins at a place; it tells the place behind it too, as the readers below do.
func readPart(s string, at int) (api.Part, int, bool) {
	kind, ok := byteAt(s, at)
	if !ok {
		return api.Part{}, at, false
	}
	if hasPrefix(kind) {
		prefix, next, fine := readPrefix(s, at+1)
		return api.Part{Type: kind, Prefix: prefix}, next, fine
	}
	if hasTerms(kind) {
		terms, next, fine := readTerms(s, at+1, kind)
		return api.Part{Type: kind, Terms: terms}, next, fine
	}
	return api.Part{}, at, false
}

func readPrefix(s string, at int) (api.Prefix, int, bool) {
	length, ok := byteAt(s, at)
	if !ok {
		return api.Prefix{}, at, false
	}
	count := prefixBytes(length)
	bits, ok := readNumber(s, at+1, count)
	if !ok {
		return api.Prefix{}, at, false
	}
	if count == 1 {
		// A lone byte is the high one: a prefix's first bits are written, not its last.
		bits = bits * (maxByte + 1)
	}
	prefix := api.Prefix{Bits: bits, Len: length}
	if !address.IsPrefix(prefix) {
		return api.Prefix{}, at, false
	}
	return prefix, at + 1 + count, true
}

// readTerms makes a list of its own for each part, so that no two lists of an answer share their room (P2).
func readTerms(s string, at int, kind int) ([]api.Term, int, bool) {
	var terms []api.Term
	for len(terms) < api.MaxTerms {
		marks, ok := byteAt(s, at)
		if !ok || !marksStand(marks, kind, len(terms) == 0) {
			return nil, at, false
		}
		wide := marks&api.Wide != 0
		count := valueBytes(wide)
		value, ok := readNumber(s, at+1, count)
		if !ok {
			return nil, at, false
		}
		and := marks&api.And != 0
		op := marks & opMarks(kind)
		terms = append(terms, api.Term{And: and, Wide: wide, Op: op, Value: value})
		at = at + 1 + count
		if marks&api.Last != 0 {
			return terms, at, true
		}
	}
	return nil, at, false
}

// marksStand tells whether a term may begin with these marks; the first one has no term ahead that And could join it to.
func marksStand(marks int, kind int, first bool) bool {
	if marks&^termMarks(kind) != 0 {
		return false
	}
	return !first || marks&api.And == 0
}

// readNumber reads a number of so many bytes, the high one first.
func readNumber(s string, at int, count int) (int, bool) {
	number := 0
	for i := 0; i < count; i++ {
		b, ok := byteAt(s, at+i)
		if !ok {
			return 0, false
		}
		number = number*(maxByte+1) + b
	}
	return number, true
}

// byteAt is the one place where a rule's bytes are indexed, so that no reader can run past their end.
func byteAt(s string, at int) (int, bool) {
	if at < 0 || at >= len(s) {
		return 0, false
	}
	return int(s[at]), true
}
