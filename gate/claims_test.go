package gate_test

import (
	"testing"

	"sluice/api"
)

// P10.

func TestAddErrors(t *testing.T) {
	o := caller{t, open(t, small)}
	rule := raw(t, "01 08 0a")
	for _, peer := range noPeers {
		o.add(peer, rule, 7, api.ErrPeer)
		for _, wrong := range noRules(t) {
			o.add(peer, wrong, 7, api.ErrPeer)
			o.add(peer, wrong, 0, api.ErrPeer)
		}
		o.add(peer, rule, 256, api.ErrPeer)
	}
	for peer := range 4 {
		for _, wrong := range noRules(t) {
			o.add(peer, wrong, 7, api.ErrForm)
			o.add(peer, wrong, 0, api.ErrForm)
			o.add(peer, wrong, 256, api.ErrForm)
		}
		for _, action := range noPaths {
			o.add(peer, rule, action, api.ErrAction)
			o.remove(peer, rule, api.ErrNone)
		}
	}
	o.status()
	for peer := range 4 {
		for _, action := range []int{1, 2, 254, 255} {
			o.add(peer, rule, action, api.OK)
		}
	}
}

func TestRemoveErrors(t *testing.T) {
	o := caller{t, open(t, small)}
	for _, peer := range noPeers {
		o.remove(peer, raw(t, "01 08 0a"), api.ErrPeer)
		for _, wrong := range noRules(t) {
			o.remove(peer, wrong, api.ErrPeer)
		}
	}
	for peer := range 4 {
		for _, wrong := range noRules(t) {
			o.remove(peer, wrong, api.ErrForm)
		}
		o.remove(peer, raw(t, "01 08 0a"), api.ErrNone)
	}
}

func TestRemoveWhatIsThere(t *testing.T) {
	o := caller{t, open(t, small)}
	rule := raw(t, "01 08 0a 03 81 06")
	o.add(1, rule, 7, api.OK)
	for _, peer := range []int{0, 2, 3} {
		o.remove(peer, rule, api.ErrNone)
	}
	// The last one says the same, but in other bytes.
	for _, other := range []string{"01 08 0a", "01 08 0a 03 81 07", "01 08 0a 03 81 06 04 87 00", "01 08 0a 03 91 00 06"} {
		o.remove(1, raw(t, other), api.ErrNone)
	}
	o.status(api.Status{Rule: rule, Peer: 1, Action: 7})
	o.remove(1, rule, api.OK)
	o.status()
	o.remove(1, rule, api.ErrNone)
	// A rule in place of another is one rule.
	o.add(1, rule, 7, api.OK)
	o.add(1, rule, 8, api.OK)
	o.status(api.Status{Rule: rule, Peer: 1, Action: 8})
	o.remove(1, rule, api.OK)
	o.remove(1, rule, api.ErrNone)
	// Each peer has its own.
	for peer := range 4 {
		o.add(peer, rule, 10+peer, api.OK)
	}
	o.remove(2, rule, api.OK)
	o.remove(2, rule, api.ErrNone)
	o.status(api.Status{Rule: rule, Action: 10}, api.Status{Rule: rule, Peer: 1, Action: 11}, api.Status{Rule: rule, Peer: 3, Action: 13})
}

func TestActionsAtTheirEdges(t *testing.T) {
	o := caller{t, open(t, small)}
	rule := raw(t, "01 08 0a")
	for _, action := range []int{1, 255, 1} {
		o.add(3, rule, action, api.OK)
		o.add(3, rule, 0, api.ErrAction)
		o.add(3, rule, 256, api.ErrAction)
		o.status(api.Status{Rule: rule, Peer: 3, Action: action})
	}
}

// fillClaims adds 24 rules: the i-th is that of peerOf(i).
func (c caller) fillClaims(peerOf func(i int) int) {
	c.t.Helper()
	for i := range 24 {
		c.add(peerOf(i), string([]byte{1, 8, byte(i)}), 7, api.OK)
	}
}

func TestFullOfRules(t *testing.T) {
	for _, peerOf := range []func(int) int{onePeer, allPeers} {
		o := caller{t, open(t, small)}
		o.fillClaims(peerOf)
		for peer := range 4 {
			o.add(peer, "\x01\x08\x18", 7, api.ErrFull)
			o.add(peer, "\x02\x00", 7, api.ErrFull)
			if peer != peerOf(0) {
				o.add(peer, "\x01\x08\x00", 7, api.ErrFull) // another peer has this one
			}
			// The other errors go ahead.
			o.add(peer, "\x01\x08\x18", 0, api.ErrAction)
			o.add(peer, "\x01\x08\x18", 256, api.ErrAction)
			o.add(peer, "\x01\x08", 7, api.ErrForm)
			o.remove(peer, "\x01\x08\x18", api.ErrNone)
		}
		o.add(-1, "\x01\x08\x18", 7, api.ErrPeer)
		var want []api.Status
		for i := range 24 {
			rule := string([]byte{1, 8, byte(i)})
			o.add(peerOf(i), rule, 100+i, api.OK) // in place of its own
			want = append(want, api.Status{Rule: rule, Peer: peerOf(i), Action: 100 + i})
		}
		o.status(want...)
		o.add(0, "\x01\x08\x18", 7, api.ErrFull)
		o.status(want...)
		o.remove(peerOf(7), "\x01\x08\x07", api.OK)
		o.add(3, "\x01\x08\x18", 7, api.OK)
		o.add(3, "\x01\x08\x19", 7, api.ErrFull)
		o.add(peerOf(7), "\x01\x08\x07", 7, api.ErrFull)
	}
}

// TestRoutesAndRulesHaveRoomOfTheirOwn: 24 of the ones leave room for 24 of the others.
func TestRoutesAndRulesHaveRoomOfTheirOwn(t *testing.T) {
	o := caller{t, open(t, small)}
	o.fillRoutes(allPeers)
	o.fillClaims(allPeers)
	o.announce(0, prefix(0, 0), 5, api.ErrFull)
	o.add(0, "\x01\x00", 7, api.ErrFull)
	if n := len(o.g.Status()); n != 24 {
		t.Errorf("P12: %d rules, want 24", n)
	}
}

// TestResetMakesRoom: what others have stays, and there is room for as much as went.
func TestResetMakesRoom(t *testing.T) {
	o := caller{t, open(t, small)}
	o.fillRoutes(allPeers)
	o.fillClaims(allPeers)
	for _, peer := range noPeers {
		o.reset(peer, api.ErrPeer)
	}
	o.reset(1, api.OK)
	for i := range 24 {
		want := api.OK
		if i%4 == 1 {
			want = api.ErrNone
		}
		o.withdraw(i%4, prefix(i*256, 8), want)
		o.remove(i%4, string([]byte{1, 8, byte(i)}), want)
	}
	o.status()
	o.fillRoutes(onePeer)
	o.fillClaims(onePeer)
	o.reset(1, api.OK) // that one has nothing
	o.announce(1, prefix(0, 0), 5, api.ErrFull)
	o.reset(2, api.OK)
	o.status()
	o.fillRoutes(allPeers)
	o.fillClaims(allPeers)
}

func TestResetOfRoutesAlone(t *testing.T) {
	o := caller{t, open(t, small)}
	o.announce(1, prefix(2560, 8), 5, api.OK)
	o.add(0, "\x01\x08\x0a", 7, api.OK)
	o.states(api.In) // by the route of another peer of its network
	o.reset(1, api.OK)
	o.states(api.Invalid)
	o.announce(1, prefix(2560, 8), 5, api.OK)
	o.states(api.In)
	o.reset(0, api.OK)
	o.status()
	o.withdraw(1, prefix(2560, 8), api.OK)
}
