package flow

import "sluice/api"

// Count tells how many cubes a rule has (P7).
func Count(s string) (int, api.Errno) {
	r, e := Decode(s)
	if e != api.OK {
		return 0, e
	}
	return countWays(fieldLists(r)), api.OK
}

// Cubes tells a rule's cubes (P7).
func Cubes(s string) ([]string, api.Errno) {
	r, e := Decode(s)
	if e != api.OK {
		return nil, e
	}
	lists := fieldLists(r)
	ways := countWays(lists)
	if ways > api.MaxCubes {
		return nil, api.ErrMany
	}
	if ways == 0 {
		// The fields ahead of one without blocks could have far more ways than MaxCubes.
		return nil, api.OK
	}
	cubes := []string{""}
	for _, blocks := range lists {
		cubes = goOn(cubes, blocks)
	}
	return goOn(cubes, []string{laterBit(r)}), api.OK
}

// fieldLists tells each field's blocks as they are written, in the order of a header's bits, which is that of the types.
func fieldLists(r api.Rule) [][]string {
	var lists [][]string
	for kind := api.Dst; kind <= api.Flags; kind++ {
		blocks := fieldBlocks(r, kind)
		lists = append(lists, writeBlocks(blocks, kind))
	}
	return lists
}

// countWays stays small: the terms of a part cut a field into fewer than 256 blocks.
func countWays(lists [][]string) int {
	ways := 1
	for _, blocks := range lists {
		ways = ways * len(blocks)
	}
	return ways
}

// goOn puts each block behind each beginning of a cube; the blocks change fastest.
func goOn(cubes []string, blocks []string) []string {
	var longer []string
	for _, cube := range cubes {
		for _, next := range blocks {
			longer = append(longer, cube+next)
		}
	}
	return longer
}

// laterBit keeps later fragments out, if the rule looks at a field that they do not have.
func laterBit(r api.Rule) string {
	for _, part := range r.Parts {
		if part.Type == api.Port || part.Type == api.Flags {
			return "0"
		}
	}
	return "*"
}
