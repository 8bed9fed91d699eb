package flow

import "sluice/api"

// What the calls must know alike of a rule's shape stands here once, so that they cannot drift apart.

const (
	maxByte = 255
	maxWide = 65535
)

func hasPrefix(kind int) bool {
	return kind == api.Dst || kind == api.Src
}

func hasTerms(kind int) bool {
	return kind == api.Proto || kind == api.Port || kind == api.Flags
}

// opMarks tells the marks that make up a term's Op. They are the lowest bits, so this is the greatest Op too.
func opMarks(kind int) int {
	if kind == api.Flags {
		return api.Not | api.Every
	}
	return api.Below | api.Above | api.Equal
}

// termMarks tells all marks that may stand in a term; flags have one byte, so Wide is not among theirs.
func termMarks(kind int) int {
	if kind == api.Flags {
		return api.Last | api.And | opMarks(kind)
	}
	return api.Last | api.And | api.Wide | opMarks(kind)
}

func isNumber(number int, most int) bool {
	return number >= 0 && number <= most
}

func prefixBytes(length int) int {
	if length > 8 {
		return 2
	}
	if length > 0 {
		return 1
	}
	return 0
}

func valueBytes(wide bool) int {
	if wide {
		return 2
	}
	return 1
}

func maxValue(wide bool) int {
	if wide {
		return maxWide
	}
	return maxByte
}
