package gate

import (
	"sluice/api"
	"sluice/flow"
	"sluice/packet"
)

// Table tells the entries (P13). No rule that is In has more cubes than Cubes tells: Budget is never so great.
func (g *Gate) Table() []api.Entry {
	var table []api.Entry
	for _, one := range g.Status() {
		if one.State != api.In {
			continue
		}
		cubes, _ := flow.Cubes(one.Rule)
		for _, cube := range cubes {
			table = append(table, api.Entry{Bits: cube, Action: one.Action, Rule: one.Rule})
		}
	}
	return table
}

// Lookup tells what becomes of a packet (P14).
func (g *Gate) Lookup(h api.Header) (int, api.Errno) {
	if !packet.IsHeader(h) {
		return 0, api.ErrHeader
	}
	bits := packet.Bits(h)
	for _, entry := range g.Table() {
		if packet.Fits(entry.Bits, bits) {
			return entry.Action, api.OK
		}
	}
	return api.Permit, api.OK
}
