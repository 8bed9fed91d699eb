package flow

import (
	"sluice/address"
	"sluice/api"
	"sluice/packet"
)

// block is so many numbers of a field, from first on: size is a power of two, first a multiple of it.
type block struct {
	first, size int
}

// fieldBlocks tells the blocks of the field that parts of a type look at. A rule without such a part takes them all.
func fieldBlocks(r api.Rule, kind int) []block {
	whole := block{first: 0, size: packet.MaxField(kind) + 1}
	for _, part := range r.Parts {
		if part.Type == kind {
			return partBlocks(part, whole)
		}
	}
	return []block{whole}
}

func partBlocks(p api.Part, whole block) []block {
	if hasPrefix(p.Type) {
		return []block{{first: p.Prefix.Bits, size: address.BitsBehind(p.Prefix.Len) + 1}}
	}
	return cover(p.Terms, p.Type, whole)
}

// cover tells the longest blocks within b of whose numbers some group holds. It ends, as a block of one number is not halved.
func cover(terms []api.Term, kind int, b block) []block {
	if !mayDiffer(terms, kind, b) {
		if someGroupHolds(terms, kind, b.first) {
			return []block{b}
		}
		return nil
	}
	half := b.size / 2
	blocks := cover(terms, kind, block{first: b.first, size: half})
	upper := cover(terms, kind, block{first: b.first + half, size: half})
	if isWhole(blocks, half) && isWhole(upper, half) {
		return []block{b}
	}
	for _, one := range upper {
		blocks = append(blocks, one)
	}
	return blocks
}

func isWhole(blocks []block, size int) bool {
	return len(blocks) == 1 && blocks[0].size == size
}

// mayDiffer tells whether the terms could hold of some numbers of a block and not of others. Where they could not, its first number speaks for all, so that not each number of a field must be looked at.
func mayDiffer(terms []api.Term, kind int, b block) bool {
	if b.size <= 1 {
		return false
	}
	for _, term := range terms {
		if termDivides(term, kind, b) {
			return true
		}
	}
	return false
}

// termDivides: a term over flags looks at the bits of its value alone, one over numbers has all numbers of a block on one side, unless its value is among them.
func termDivides(t api.Term, kind int, b block) bool {
	if kind == api.Flags {
		return t.Value&(b.size-1) != 0
	}
	return isNumber(t.Value-b.first, b.size-1)
}

func writeBlocks(blocks []block, kind int) []string {
	var texts []string
	for _, b := range blocks {
		texts = append(texts, writeBlock(b, kind))
	}
	return texts
}

// writeBlock goes through the weights of the field's bits: those below the size are free.
func writeBlock(b block, kind int) string {
	s := ""
	for weight := (packet.MaxField(kind) + 1) / 2; weight > 0; weight = weight / 2 {
		if weight < b.size {
			s += "*"
		} else if b.first&weight != 0 {
			s += "1"
		} else {
			s += "0"
		}
	}
	return s
}
