package gate_test

import (
	"testing"

	"sluice/api"
)

// P9.

func TestAnnounceErrors(t *testing.T) {
	o := caller{t, open(t, small)}
	p := prefix(2560, 8)
	// With every peer that is none: ErrPeer goes ahead of the other errors.
	for _, peer := range noPeers {
		o.announce(peer, p, 5, api.ErrPeer)
		for _, wrong := range noPrefixes {
			o.announce(peer, wrong, 5, api.ErrPeer)
			o.announce(peer, wrong, 0, api.ErrPeer)
		}
		o.announce(peer, p, 256, api.ErrPeer)
	}
	for peer := range 4 {
		for _, wrong := range noPrefixes {
			o.announce(peer, wrong, 5, api.ErrPrefix)
			o.announce(peer, wrong, 0, api.ErrPrefix)
			o.announce(peer, wrong, 256, api.ErrPrefix)
		}
		for _, path := range noPaths {
			o.announce(peer, p, path, api.ErrPath)
			o.withdraw(peer, p, api.ErrNone)
		}
		for _, path := range []int{1, 2, 254, 255} {
			o.announce(peer, p, path, api.OK)
		}
	}
}

func TestWithdrawErrors(t *testing.T) {
	o := caller{t, open(t, small)}
	p := prefix(2560, 8)
	for _, peer := range noPeers {
		o.withdraw(peer, p, api.ErrPeer)
		for _, wrong := range noPrefixes {
			o.withdraw(peer, wrong, api.ErrPeer)
		}
	}
	for peer := range 4 {
		for _, wrong := range noPrefixes {
			o.withdraw(peer, wrong, api.ErrPrefix)
		}
		o.withdraw(peer, p, api.ErrNone)
	}
}

func TestWithdrawWhatIsThere(t *testing.T) {
	o := caller{t, open(t, small)}
	p := prefix(2560, 8)
	o.announce(1, p, 5, api.OK)
	// Another peer's, a shorter, a longer and another prefix are not this one.
	for _, peer := range []int{0, 2, 3} {
		o.withdraw(peer, p, api.ErrNone)
	}
	for _, other := range []api.Prefix{prefix(2560, 7), prefix(2560, 9), prefix(2560, 16), prefix(2816, 8), prefix(0, 0)} {
		o.withdraw(1, other, api.ErrNone)
	}
	o.withdraw(1, p, api.OK)
	o.withdraw(1, p, api.ErrNone)
	// A route in place of another is one route.
	o.announce(1, p, 5, api.OK)
	o.announce(1, p, 6, api.OK)
	o.withdraw(1, p, api.OK)
	o.withdraw(1, p, api.ErrNone)
	// Each peer has its own.
	for peer := range 4 {
		o.announce(peer, p, 5, api.OK)
	}
	for peer := range 4 {
		o.withdraw(peer, p, api.OK)
		o.withdraw(peer, p, api.ErrNone)
	}
}

func TestAnnounceAllLengths(t *testing.T) {
	o := caller{t, open(t, small)}
	for length := range 17 {
		o.announce(2, prefix(65535>>(16-length)<<(16-length), length), 5, api.OK)
	}
	for length := range 17 {
		o.withdraw(2, prefix(65535>>(16-length)<<(16-length), length), api.OK)
	}
}

// fillRoutes announces 24 routes: the i-th is that of peerOf(i).
func (c caller) fillRoutes(peerOf func(i int) int) {
	c.t.Helper()
	for i := range 24 {
		c.announce(peerOf(i), prefix(i*256, 8), 5, api.OK)
	}
}

func onePeer(int) int { return 2 }

func allPeers(i int) int { return i % 4 }

func TestFullOfRoutes(t *testing.T) {
	for _, peerOf := range []func(int) int{onePeer, allPeers} {
		o := caller{t, open(t, small)}
		o.fillRoutes(peerOf)
		for peer := range 4 {
			o.announce(peer, prefix(24*256, 8), 5, api.ErrFull)
			o.announce(peer, prefix(0, 0), 5, api.ErrFull)
			if peer != peerOf(0) {
				o.announce(peer, prefix(0, 8), 5, api.ErrFull) // another peer has this one
			}
			// The other errors go ahead.
			o.announce(peer, prefix(24*256, 8), 0, api.ErrPath)
			o.announce(peer, prefix(24*256, 7), 256, api.ErrPath)
			o.announce(peer, prefix(1, 8), 5, api.ErrPrefix)
			o.withdraw(peer, prefix(24*256, 8), api.ErrNone)
		}
		o.announce(4, prefix(24*256, 8), 5, api.ErrPeer)
		for i := range 24 {
			o.announce(peerOf(i), prefix(i*256, 8), 6, api.OK) // in place of its own
		}
		o.announce(0, prefix(24*256, 8), 5, api.ErrFull)
		o.withdraw(peerOf(7), prefix(7*256, 8), api.OK)
		o.announce(3, prefix(24*256, 8), 5, api.OK)
		o.announce(3, prefix(25*256, 8), 5, api.ErrFull)
		o.announce(peerOf(7), prefix(7*256, 8), 5, api.ErrFull)
	}
}

// TestPathTakesThePlace: of a peer's routes to a prefix the newest alone counts, be its path less or more than the one before.
func TestPathTakesThePlace(t *testing.T) {
	o := caller{t, open(t, small)}
	p := prefix(2560, 8)
	o.add(0, "\x01\x08\x0a", 7, api.OK)
	o.announce(2, p, 5, api.OK)
	o.announce(0, p, 9, api.OK)
	o.states(api.Invalid)
	o.announce(0, p, 4, api.OK)
	o.states(api.In)
	o.announce(0, p, 255, api.OK)
	o.states(api.Invalid)
	o.announce(2, p, 255, api.OK)
	o.states(api.In)
}
