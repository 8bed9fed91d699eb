package gate

import "sluice/api"

// writesSince tells the writes of a call that found this table (P15).
func (g *Gate) writesSince(before []api.Entry) []api.Write {
	after := g.Table()
	return writesBetween(before, after)
}

// writesBetween lets all that is new in, from the first place on, and only then all that is old out, from the last place on. While entries come in, every old one stands, and ahead of each new one all that go ahead of it in the new table: so the first that fits a header is the first of the old table or the first of the new one. While entries go out, the same is true with the two tables in each other's place.
func writesBetween(before []api.Entry, after []api.Entry) []api.Write {
	both := merged(before, after)
	var writes []api.Write
	for i, entry := range both {
		if !stands(before, entry) {
			writes = append(writes, api.Write{Kind: api.Insert, Place: i, Entry: entry})
		}
	}
	for i := len(both) - 1; i >= 0; i-- {
		if !stands(after, both[i]) {
			writes = append(writes, api.Write{Kind: api.Delete, Place: i})
		}
	}
	return writes
}

// merged tells the entries of both tables, each once, and those of either table in its order. What stands in both stands in the same order in both, as rules and their cubes keep theirs.
func merged(before []api.Entry, after []api.Entry) []api.Entry {
	var both []api.Entry
	next := 0
	for _, entry := range before {
		at := placeOfEntry(after, entry)
		if at >= len(after) {
			both = append(both, entry)
			continue
		}
		for next <= at {
			both = append(both, after[next])
			next++
		}
	}
	for next < len(after) {
		both = append(both, after[next])
		next++
	}
	return both
}

func stands(table []api.Entry, entry api.Entry) bool {
	return placeOfEntry(table, entry) < len(table)
}

// placeOfEntry tells the length of the table, if the entry does not stand in it.
func placeOfEntry(table []api.Entry, entry api.Entry) int {
	for i, one := range table {
		if one == entry {
			return i
		}
	}
	return len(table)
}
