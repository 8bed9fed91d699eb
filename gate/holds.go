package gate

import (
	"sluice/address"
	"sluice/api"
	"sluice/flow"
)

// nobody is the network of those who are no peer: New takes none of this number.
const nobody = 0

// holds tells whether a peer may speak for all addresses that its rule names (P11).
func (g *Gate) holds(c claim) bool {
	named, ok := destination(c.rule)
	if !ok {
		return false
	}
	own := g.networkOf(c.peer)
	longest, ok := longestCover(g.routes, named)
	if !ok || g.networkTo(longest) != own {
		return false
	}
	for _, r := range g.routes {
		if isWithin(r.prefix, named) && g.networkTo(r.prefix) != own {
			return false
		}
	}
	return true
}

// destination looks at the first part alone: types rise, so that no other part can be of the lowest one.
func destination(rule string) (api.Prefix, bool) {
	r, e := flow.Decode(rule)
	if e != api.OK || len(r.Parts) == 0 || r.Parts[0].Type != api.Dst {
		return api.Prefix{}, false
	}
	return r.Parts[0].Prefix, true
}

// longestCover tells the longest prefix with a route to it among those that cover a prefix, if there is one. There are no two of the same length.
func longestCover(routes []route, p api.Prefix) (api.Prefix, bool) {
	longest := api.Prefix{}
	found := false
	for _, r := range routes {
		if address.Covers(r.prefix, p) && (!found || r.prefix.Len > longest.Len) {
			longest = r.prefix
			found = true
		}
	}
	return longest, found
}

func isWithin(p api.Prefix, outer api.Prefix) bool {
	return p.Len > outer.Len && address.Covers(outer, p)
}

// networkTo tells to which network the best route to a prefix leads. It begins with one that is worse than every route.
func (g *Gate) networkTo(p api.Prefix) int {
	best := route{peer: api.Peers, path: api.MaxPath}
	for _, r := range g.routes {
		if r.prefix == p && isBetter(r, best) {
			best = r
		}
	}
	return g.networkOf(best.peer)
}

func isBetter(a route, b route) bool {
	if a.path == b.path {
		return a.peer < b.peer
	}
	return a.path < b.path
}

func (g *Gate) networkOf(peer int) int {
	if !isPeer(peer) {
		return nobody
	}
	return g.config.Net[peer]
}
