package gate_test

import (
	"testing"

	"sluice/api"
)

// P11.

// ruled: a gate of the document's examples, in which a peer has the rule of destinations that begin with 00001010.
func ruled(t *testing.T, peer int) caller {
	t.Helper()
	o := caller{t, open(t, small)}
	o.add(peer, "\x01\x08\x0a", 7, api.OK)
	o.states(api.Invalid)
	return o
}

func TestNoRoute(t *testing.T) {
	for peer := range 4 {
		o := ruled(t, peer)
		// These neither cover the rule's prefix nor lie in it.
		o.announce(peer, prefix(2816, 8), 1, api.OK)
		o.announce(peer, prefix(0x8000, 1), 1, api.OK)
		o.announce(peer, prefix(0x09ff, 16), 1, api.OK)
		o.states(api.Invalid)
		// These lie in it, and do not cover it.
		o.announce(peer, prefix(2560, 9), 1, api.OK)
		o.announce(peer, prefix(2688, 9), 1, api.OK)
		o.states(api.Invalid)
	}
}

// TestRoutesThatCover: to the rule's prefix itself, and to every shorter one, down to length 0.
func TestRoutesThatCover(t *testing.T) {
	for length := range 9 {
		p := prefix(2560>>(16-length)<<(16-length), length)
		for peer := range 4 {
			o := ruled(t, 0)
			o.announce(peer, p, 255, api.OK)
			if peer <= 1 {
				o.states(api.In) // its own network
			} else {
				o.states(api.Invalid)
			}
			o.withdraw(peer, p, api.OK)
			o.states(api.Invalid)
		}
	}
}

func TestNetworkNotPeerCounts(t *testing.T) {
	o := caller{t, open(t, api.Config{Capacity: 3, Budget: 2, Net: [4]int{65535, 1, 65535, 65534}})}
	for peer := range 4 {
		o.add(peer, "\x01\x00", 10+peer, api.OK)
	}
	o.announce(2, prefix(0, 0), 5, api.OK)
	o.states(api.In, api.Invalid, api.Beaten, api.Invalid)
	o.announce(3, prefix(0, 0), 4, api.OK)
	o.states(api.Invalid, api.Invalid, api.Invalid, api.In)
	o.announce(1, prefix(0, 0), 3, api.OK)
	o.states(api.Invalid, api.In, api.Invalid, api.Invalid)
}

// TestBestRoute: the least path, and of equal ones that of the lowest peer, in whatever order they came.
func TestBestRoute(t *testing.T) {
	p := prefix(2560, 8)
	for _, order := range [][]int{{0, 2, 3}, {3, 2, 0}, {2, 0, 3}} {
		for _, c := range []struct {
			paths [4]int
			best  int
		}{
			{[4]int{5, 0, 5, 5}, 0}, {[4]int{255, 0, 255, 255}, 0}, {[4]int{1, 0, 1, 1}, 0}, {[4]int{6, 0, 5, 5}, 2},
			{[4]int{255, 0, 254, 255}, 2}, {[4]int{2, 0, 1, 1}, 2}, {[4]int{7, 0, 6, 5}, 3}, {[4]int{5, 0, 6, 4}, 3}, {[4]int{255, 0, 255, 1}, 3},
		} {
			o := caller{t, open(t, small)}
			for _, peer := range order {
				o.add(peer, "\x01\x08\x0a", 7, api.OK)
				o.announce(peer, p, c.paths[peer], api.OK)
			}
			want := []int{api.Invalid, api.Invalid, api.Invalid}
			want[max(c.best-1, 0)] = api.In
			o.states(want...)
		}
	}
}

// TestLongestCover: the longest prefix counts, not the best path, in whatever order they came.
func TestLongestCover(t *testing.T) {
	all := []api.Prefix{prefix(0, 0), prefix(0x0800, 5), prefix(2560, 7), prefix(2560, 8)}
	for turn := range all {
		o := ruled(t, 0)
		for i := range all {
			k := (i + turn) % len(all)
			// Of another network, and better, all but the longest.
			if k < len(all)-1 {
				o.announce(2, all[k], 1, api.OK)
			} else {
				o.announce(0, all[k], 200, api.OK)
			}
		}
		o.states(api.In)
		o.withdraw(0, all[3], api.OK)
		o.states(api.Invalid)
		o.announce(1, all[2], 1, api.OK) // of its network, as good as peer 2's, and lower
		o.states(api.In)
		o.withdraw(2, all[2], api.OK)
		o.withdraw(1, all[2], api.OK)
		o.states(api.Invalid)
		o.withdraw(2, all[1], api.OK)
		o.states(api.Invalid)
		o.withdraw(2, all[0], api.OK)
		o.states(api.Invalid)
		o.announce(0, all[0], 255, api.OK)
		o.states(api.In)
	}
}

// TestRoutesWithin: to longer prefixes that the rule's covers, of every length.
func TestRoutesWithin(t *testing.T) {
	for length := 9; length <= 16; length++ {
		for _, bits := range []int{2560, 2815 >> (16 - length) << (16 - length)} {
			o := ruled(t, 0)
			p := prefix(bits, length)
			o.announce(0, prefix(2560, 8), 5, api.OK)
			o.states(api.In)
			o.announce(1, p, 5, api.OK) // of its network
			o.states(api.In)
			o.announce(2, p, 5, api.OK) // as good, but of a higher number
			o.states(api.In)
			o.announce(2, p, 4, api.OK)
			o.states(api.Invalid)
			o.announce(0, p, 4, api.OK)
			o.states(api.In)
			o.reset(1, api.OK)
			o.states(api.In)
			o.withdraw(0, p, api.OK)
			o.states(api.Invalid)
			o.withdraw(2, p, api.OK)
			o.states(api.In)
			// Next to what the rule's prefix covers.
			o.announce(3, prefix(2816, length), 1, api.OK)
			o.announce(3, prefix(2560-1<<(16-length), length), 1, api.OK)
			o.states(api.In)
		}
	}
}

// TestEachRouteWithinCounts: one of another network is enough, wherever it stands among others.
func TestEachRouteWithinCounts(t *testing.T) {
	for wrong := range 4 {
		o := ruled(t, 1)
		o.announce(1, prefix(2560, 8), 5, api.OK)
		for i := range 4 {
			peer := i % 2
			if i == wrong {
				peer = 3
			}
			o.announce(peer, prefix(2560+64*i, 10), 5, api.OK)
		}
		o.states(api.Invalid)
		o.reset(3, api.OK)
		o.states(api.In)
	}
}

// TestRulesOfAllAddressesAndOfOne: prefixes of length 0 and 16.
func TestRulesOfAllAddressesAndOfOne(t *testing.T) {
	o := caller{t, open(t, small)}
	o.add(0, "\x01\x00", 7, api.OK)
	o.add(0, "\x01\x10\x0a\x01", 8, api.OK)
	o.announce(0, prefix(0, 0), 5, api.OK)
	o.states(api.In, api.In)
	o.announce(3, prefix(2561, 16), 5, api.OK)
	o.states(api.Invalid, api.Invalid)
	o.announce(0, prefix(2561, 16), 4, api.OK)
	o.states(api.In, api.In)
	o.withdraw(0, prefix(0, 0), api.OK)
	o.states(api.In, api.Invalid)
	o.announce(3, prefix(0, 0), 5, api.OK)
	o.states(api.In, api.Invalid)
	o.withdraw(0, prefix(2561, 16), api.OK)
	o.announce(0, prefix(0, 0), 4, api.OK)
	o.states(api.Invalid, api.Invalid)
	o.announce(3, prefix(2560, 16), 5, api.OK)
	o.withdraw(3, prefix(2561, 16), api.OK)
	o.states(api.In, api.Invalid)
}

// TestOtherPartsDoNotCount: the destination's prefix is all that is looked at; without it no rule holds.
func TestOtherPartsDoNotCount(t *testing.T) {
	o := caller{t, open(t, sized(128, 64))}
	for _, s := range []string{"01 08 0a 02 08 0b", "01 08 0a 03 81 06", "02 08 0a", "02 08 0a 03 81 06", "03 81 06", "04 81 06", "05 81 80"} {
		o.add(0, raw(t, s), 7, api.OK)
	}
	o.announce(0, prefix(2816, 8), 5, api.OK)
	o.states(0, 0, 0, 0, 0, 0, 0)
	o.announce(0, prefix(2560, 8), 5, api.OK)
	o.states(api.In, api.In, 0, 0, 0, 0, 0)
	o.announce(0, prefix(0, 0), 5, api.OK)
	o.states(api.In, api.In, 0, 0, 0, 0, 0)
}
