package gate

import (
	"sluice/address"
	"sluice/api"
)

// route is one that a peer announced.
type route struct {
	peer   int
	prefix api.Prefix
	path   int
}

// Announce: a peer announces a route (P9).
func (g *Gate) Announce(peer int, p api.Prefix, path int) ([]api.Write, api.Errno) {
	e := checkRoute(peer, p)
	if e != api.OK {
		return nil, e
	}
	if !isUpTo(path, api.MaxPath) {
		return nil, api.ErrPath
	}
	before := g.Table()
	at := placeOfRoute(g.routes, peer, p)
	if at < len(g.routes) {
		g.routes[at].path = path
		return g.writesSince(before), api.OK
	}
	if len(g.routes) >= api.MaxRoutes {
		return nil, api.ErrFull
	}
	g.routes = append(g.routes, route{peer: peer, prefix: p, path: path})
	return g.writesSince(before), api.OK
}

// Withdraw: a peer takes a route back (P9).
func (g *Gate) Withdraw(peer int, p api.Prefix) ([]api.Write, api.Errno) {
	e := checkRoute(peer, p)
	if e != api.OK {
		return nil, e
	}
	at := placeOfRoute(g.routes, peer, p)
	if at >= len(g.routes) {
		return nil, api.ErrNone
	}
	before := g.Table()
	g.routes = routesWithout(g.routes, at)
	return g.writesSince(before), api.OK
}

func checkRoute(peer int, p api.Prefix) api.Errno {
	if !isPeer(peer) {
		return api.ErrPeer
	}
	if !address.IsPrefix(p) {
		return api.ErrPrefix
	}
	return api.OK
}

// placeOfRoute tells the length of the list, if the peer has no route to the prefix.
func placeOfRoute(routes []route, peer int, p api.Prefix) int {
	for i, r := range routes {
		if r.peer == peer && r.prefix == p {
			return i
		}
	}
	return len(routes)
}

func routesWithout(routes []route, at int) []route {
	var rest []route
	for i, r := range routes {
		if i != at {
			rest = append(rest, r)
		}
	}
	return rest
}

func routesOfOthers(routes []route, peer int) []route {
	var rest []route
	for _, r := range routes {
		if r.peer != peer {
			rest = append(rest, r)
		}
	}
	return rest
}
