package gate_test

import (
	"fmt"
	"slices"
	"strings"

	"sluice/api"
	"sluice/flow"
)

// told says P9 to P14 a second time, in other words than the program does: what is announced stands in maps, prefixes are texts of bits, and each state is told from its own sentence.
type told struct {
	config api.Config
	routes map[toldRoute]int // the path
	rules  map[toldRule]int  // the action
	counts map[string]int    // of cubes: asked for so often that they are noted
}

type toldRoute struct {
	peer int
	bits string
}

type toldRule struct {
	peer int
	rule string
}

func newTold(c api.Config) told {
	return told{config: c, routes: map[toldRoute]int{}, rules: map[toldRule]int{}, counts: map[string]int{}}
}

// firstBits: the bits that a prefix says of an address, if it is one.
func firstBits(p api.Prefix) (string, bool) {
	if p.Len < 0 || p.Len > 16 || p.Bits < 0 || p.Bits > 65535 {
		return "", false
	}
	s := fmt.Sprintf("%016b", p.Bits)
	return s[:p.Len], !strings.Contains(s[p.Len:], "1")
}

func (m told) announce(peer int, p api.Prefix, path int) api.Errno {
	bits, ok := firstBits(p)
	key := toldRoute{peer, bits}
	_, has := m.routes[key]
	switch {
	case peer < 0 || peer > 3:
		return api.ErrPeer
	case !ok:
		return api.ErrPrefix
	case path < 1 || path > 255:
		return api.ErrPath
	case !has && len(m.routes) == 24:
		return api.ErrFull
	}
	m.routes[key] = path
	return api.OK
}

func (m told) withdraw(peer int, p api.Prefix) api.Errno {
	bits, ok := firstBits(p)
	key := toldRoute{peer, bits}
	_, has := m.routes[key]
	switch {
	case peer < 0 || peer > 3:
		return api.ErrPeer
	case !ok:
		return api.ErrPrefix
	case !has:
		return api.ErrNone
	}
	delete(m.routes, key)
	return api.OK
}

func (m told) add(peer int, rule string, action int) api.Errno {
	_, form := flow.Decode(rule)
	key := toldRule{peer, rule}
	_, has := m.rules[key]
	switch {
	case peer < 0 || peer > 3:
		return api.ErrPeer
	case form != api.OK:
		return api.ErrForm
	case action < 1 || action > 255:
		return api.ErrAction
	case !has && len(m.rules) == 24:
		return api.ErrFull
	}
	m.rules[key] = action
	return api.OK
}

func (m told) remove(peer int, rule string) api.Errno {
	_, form := flow.Decode(rule)
	key := toldRule{peer, rule}
	_, has := m.rules[key]
	switch {
	case peer < 0 || peer > 3:
		return api.ErrPeer
	case form != api.OK:
		return api.ErrForm
	case !has:
		return api.ErrNone
	}
	delete(m.rules, key)
	return api.OK
}

func (m told) reset(peer int) api.Errno {
	if peer < 0 || peer > 3 {
		return api.ErrPeer
	}
	for key := range m.routes {
		if key.peer == peer {
			delete(m.routes, key)
		}
	}
	for key := range m.rules {
		if key.peer == peer {
			delete(m.rules, key)
		}
	}
	return api.OK
}

// best: the network of the best route to a prefix, if there is one.
func (m told) best(bits string) (int, bool) {
	network, least := 0, 256
	for peer := range 4 {
		if path, has := m.routes[toldRoute{peer, bits}]; has && path < least {
			network, least = m.config.Net[peer], path
		}
	}
	return network, least < 256
}

func (m told) holds(key toldRule) bool {
	r, _ := flow.Decode(key.rule)
	if r.Parts[0].Type != api.Dst {
		return false
	}
	own := m.config.Net[key.peer]
	bits, _ := firstBits(r.Parts[0].Prefix)
	n := len(bits)
	for n >= 0 {
		if _, has := m.best(bits[:n]); has {
			break
		}
		n--
	}
	if n < 0 {
		return false
	}
	if network, _ := m.best(bits[:n]); network != own {
		return false
	}
	for route := range m.routes {
		if len(route.bits) > len(bits) && strings.HasPrefix(route.bits, bits) {
			if network, _ := m.best(route.bits); network != own {
				return false
			}
		}
	}
	return true
}

func (m told) isBeaten(key toldRule) bool {
	for peer := range key.peer {
		lower := toldRule{peer, key.rule}
		if _, has := m.rules[lower]; has && m.holds(lower) {
			return true
		}
	}
	return false
}

func (m told) ordered() []toldRule {
	var l []toldRule
	for key := range m.rules {
		l = append(l, key)
	}
	slices.SortFunc(l, func(a, b toldRule) int {
		if c, _ := flow.Compare(a.rule, b.rule); c != 0 {
			return c
		}
		return a.peer - b.peer
	})
	return l
}

func (m told) count(rule string) int {
	n, has := m.counts[rule]
	if !has {
		n, _ = flow.Count(rule)
		m.counts[rule] = n
	}
	return n
}

// fitIn: whether all these rules do, of which each stands behind the one before it.
func (m told) fitIn(rules []toldRule) bool {
	sum := 0
	for _, key := range rules {
		n := m.count(key.rule)
		if n > m.config.Budget {
			return false
		}
		sum += n
	}
	return sum <= m.config.Capacity
}

func (m told) status() []api.Status {
	var l []api.Status
	var others []toldRule
	for _, key := range m.ordered() {
		s := api.Status{Rule: key.rule, Peer: key.peer, Action: m.rules[key]}
		switch {
		case !m.holds(key):
			s.State = api.Invalid
		case m.isBeaten(key):
			s.State = api.Beaten
		default:
			others = append(others, key)
			s.State = api.Held
			if m.fitIn(others) {
				s.State = api.In
			}
		}
		l = append(l, s)
	}
	return l
}

// toldTable: by what became of the rules.
func toldTable(status []api.Status) []api.Entry {
	var l []api.Entry
	for _, s := range status {
		if s.State == api.In {
			cubes, _ := flow.Cubes(s.Rule)
			for _, cube := range cubes {
				l = append(l, api.Entry{Bits: cube, Action: s.Action, Rule: s.Rule})
			}
		}
	}
	return l
}

// toldLookup asks the rules, not their cubes: one matches a header just if one of its cubes fits.
func toldLookup(status []api.Status, h api.Header) int {
	for _, s := range status {
		if match, _ := flow.Match(s.Rule, h); match && s.State == api.In {
			return s.Action
		}
	}
	return api.Permit
}
