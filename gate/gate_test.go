package gate_test

import (
	"math"
	"testing"

	"sluice/api"
	"sluice/gate"
)

// P8.

func wantNoGate(t *testing.T, c api.Config) {
	t.Helper()
	if g, e := gate.New(c); e != api.ErrConfig || g != nil {
		t.Errorf("P8: New(%+v) = %v, %d, want none, %d", c, g, e, api.ErrConfig)
	}
}

func wantEmptyGate(t *testing.T, c api.Config) {
	t.Helper()
	o := caller{t, open(t, c)}
	o.status()
	o.table()
	for peer := range 4 {
		o.withdraw(peer, prefix(0, 0), api.ErrNone)
		o.remove(peer, "\x01\x00", api.ErrNone)
		o.reset(peer, api.OK)
	}
	o.status()
	o.table()
}

func TestNewCapacity(t *testing.T) {
	for _, n := range []int{1, 2, 64, 65, 127, 128} {
		wantEmptyGate(t, sized(n, 2))
	}
	for _, n := range []int{0, -1, 129, 256, 1<<32 + 1, math.MinInt, math.MaxInt} {
		wantNoGate(t, sized(n, 2))
	}
}

func TestNewBudget(t *testing.T) {
	for _, n := range []int{1, 2, 63, 64} {
		wantEmptyGate(t, sized(3, n))
	}
	for _, n := range []int{0, -1, 65, 128, 1<<32 + 1, math.MinInt, math.MaxInt} {
		wantNoGate(t, sized(128, n))
	}
}

func TestNewNet(t *testing.T) {
	for peer := range 4 {
		c := small
		for _, n := range []int{1, 2, 65534, 65535} {
			c.Net[peer] = n
			wantEmptyGate(t, c)
		}
		for _, n := range []int{0, -1, 65536, 65537, 1<<32 + 1, math.MinInt, math.MaxInt} {
			c.Net[peer] = n
			wantNoGate(t, c)
		}
	}
}

func TestNewAllAtTheirEdges(t *testing.T) {
	wantEmptyGate(t, sized(1, 1))
	wantEmptyGate(t, sized(1, 64)) // more for one rule than for all
	wantEmptyGate(t, sized(128, 1))
	wantEmptyGate(t, api.Config{Capacity: 128, Budget: 64, Net: [4]int{65535, 65535, 65535, 65535}})
	wantNoGate(t, api.Config{})
	wantNoGate(t, api.Config{Capacity: 3, Budget: 2})
	wantNoGate(t, api.Config{Net: small.Net})
	wantNoGate(t, api.Config{Capacity: -1, Budget: -1, Net: [4]int{-1, -1, -1, -1}})
}
