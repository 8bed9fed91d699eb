package gate

import (
	"sluice/api"
	"sluice/flow"
)

// Status tells what became of each rule (P11, P12).
func (g *Gate) Status() []api.Status {
	list := g.judged()
	left := g.config.Capacity
	for i, one := range list {
		if one.State != api.Held {
			continue
		}
		count, _ := flow.Count(one.Rule)
		if count > g.config.Budget || count > left {
			// All that stand behind stay Held, small as they may be.
			return list
		}
		left = left - count
		list[i].State = api.In
	}
	return list
}

// judged tells which rules hold, and which of the same ones is taken; that one is Held, as nobody has asked for room for it. The same rules stand side by side, so that the one that held last is all that must be known.
func (g *Gate) judged() []api.Status {
	var list []api.Status
	last := ""
	for _, c := range g.claims {
		state := api.Invalid
		if g.holds(c) {
			state = api.Held
			if c.rule == last {
				state = api.Beaten
			}
			last = c.rule
		}
		list = append(list, api.Status{Rule: c.rule, Peer: c.peer, Action: c.action, State: state})
	}
	return list
}
