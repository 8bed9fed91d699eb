package gate

import (
	"sluice/api"
	"sluice/flow"
)

// claim is a rule as one peer has it.
type claim struct {
	peer   int
	rule   string
	action int
}

// Add: a peer announces a rule (P10).
func (g *Gate) Add(peer int, rule string, action int) ([]api.Write, api.Errno) {
	e := checkClaim(peer, rule)
	if e != api.OK {
		return nil, e
	}
	if !isUpTo(action, api.MaxAction) {
		return nil, api.ErrAction
	}
	before := g.Table()
	at := placeOfClaim(g.claims, peer, rule)
	if at < len(g.claims) {
		g.claims[at].action = action
		return g.writesSince(before), api.OK
	}
	if len(g.claims) >= api.MaxRules {
		return nil, api.ErrFull
	}
	g.claims = claimsWith(g.claims, claim{peer: peer, rule: rule, action: action})
	return g.writesSince(before), api.OK
}

// Remove: a peer takes a rule back (P10).
func (g *Gate) Remove(peer int, rule string) ([]api.Write, api.Errno) {
	e := checkClaim(peer, rule)
	if e != api.OK {
		return nil, e
	}
	at := placeOfClaim(g.claims, peer, rule)
	if at >= len(g.claims) {
		return nil, api.ErrNone
	}
	before := g.Table()
	g.claims = claimsWithout(g.claims, at)
	return g.writesSince(before), api.OK
}

// Reset: a peer is gone, and all that it announced (P10).
func (g *Gate) Reset(peer int) ([]api.Write, api.Errno) {
	if !isPeer(peer) {
		return nil, api.ErrPeer
	}
	before := g.Table()
	g.routes = routesOfOthers(g.routes, peer)
	g.claims = claimsOfOthers(g.claims, peer)
	return g.writesSince(before), api.OK
}

func checkClaim(peer int, rule string) api.Errno {
	if !isPeer(peer) {
		return api.ErrPeer
	}
	_, e := flow.Decode(rule)
	return e
}

// placeOfClaim tells the length of the list, if the peer does not have the rule.
func placeOfClaim(claims []claim, peer int, rule string) int {
	for i, c := range claims {
		if c.peer == peer && c.rule == rule {
			return i
		}
	}
	return len(claims)
}

// claimsWith lays a claim where it belongs: they are kept in the order of Status, so that no call must sort them.
func claimsWith(claims []claim, added claim) []claim {
	var longer []claim
	placed := false
	for _, c := range claims {
		if !placed && goesFirst(added, c) {
			longer = append(longer, added)
			placed = true
		}
		longer = append(longer, c)
	}
	if !placed {
		longer = append(longer, added)
	}
	return longer
}

func goesFirst(a claim, b claim) bool {
	order, _ := flow.Compare(a.rule, b.rule)
	if order == 0 {
		return a.peer < b.peer
	}
	return order < 0
}

func claimsWithout(claims []claim, at int) []claim {
	var rest []claim
	for i, c := range claims {
		if i != at {
			rest = append(rest, c)
		}
	}
	return rest
}

func claimsOfOthers(claims []claim, peer int) []claim {
	var rest []claim
	for _, c := range claims {
		if c.peer != peer {
			rest = append(rest, c)
		}
	}
	return rest
}
