package gate_test

import (
	"encoding/hex"
	"math"
	"slices"
	"strings"
	"testing"

	"sluice/api"
	"sluice/gate"
)

// raw: bytes written in hexadecimal.
func raw(t *testing.T, s string) string {
	t.Helper()
	b, err := hex.DecodeString(strings.ReplaceAll(s, " ", ""))
	if err != nil {
		t.Fatal(err)
	}
	return string(b)
}

func prefix(bits, length int) api.Prefix { return api.Prefix{Bits: bits, Len: length} }

// small: the gate of the document's examples.
var small = api.Config{Capacity: 3, Budget: 2, Net: [4]int{1, 1, 2, 3}}

// sized: a gate with room for so many entries, in which all peers are of one network.
func sized(capacity, budget int) api.Config {
	return api.Config{Capacity: capacity, Budget: budget, Net: [4]int{1, 1, 1, 1}}
}

func open(t *testing.T, c api.Config) *gate.Gate {
	t.Helper()
	g, e := gate.New(c)
	if e != api.OK || g == nil {
		t.Fatalf("P8: New(%+v) = %v, %d", c, g, e)
	}
	return g
}

// caller is a gate with a test to tell what was wrong with its answers.
type caller struct {
	t *testing.T
	g *gate.Gate
}

// answered: P1: with an error there is nothing beside it, and the table is as it was. P15: without one the writes lead from the table that was to the one that is.
func (c caller) answered(what string, before []api.Entry, l []api.Write, e, want api.Errno) []api.Write {
	c.t.Helper()
	if e != want {
		c.t.Errorf("%s: %d, want %d", what, e, want)
	}
	after := c.g.Table()
	if e != api.OK && (len(l) != 0 || !slices.Equal(before, after)) {
		c.t.Errorf("P1: %s: %d, and beside it %+v; the table was %+v, is %+v", what, e, l, before, after)
	}
	if s := faultOf(before, after, l, 30); e == api.OK && s != "" {
		c.t.Errorf("P15: %s: %s; the table was %+v, is %+v; writes: %+v", what, s, before, after, l)
	}
	return l
}

func (c caller) announce(peer int, p api.Prefix, path int, want api.Errno) []api.Write {
	c.t.Helper()
	before := c.g.Table()
	l, e := c.g.Announce(peer, p, path)
	return c.answered("P9: Announce", before, l, e, want)
}

func (c caller) withdraw(peer int, p api.Prefix, want api.Errno) []api.Write {
	c.t.Helper()
	before := c.g.Table()
	l, e := c.g.Withdraw(peer, p)
	return c.answered("P9: Withdraw", before, l, e, want)
}

func (c caller) add(peer int, rule string, action int, want api.Errno) []api.Write {
	c.t.Helper()
	before := c.g.Table()
	l, e := c.g.Add(peer, rule, action)
	return c.answered("P10: Add", before, l, e, want)
}

func (c caller) remove(peer int, rule string, want api.Errno) []api.Write {
	c.t.Helper()
	before := c.g.Table()
	l, e := c.g.Remove(peer, rule)
	return c.answered("P10: Remove", before, l, e, want)
}

func (c caller) reset(peer int, want api.Errno) []api.Write {
	c.t.Helper()
	before := c.g.Table()
	l, e := c.g.Reset(peer)
	return c.answered("P10: Reset", before, l, e, want)
}

func (c caller) status(want ...api.Status) {
	c.t.Helper()
	if l := c.g.Status(); !slices.Equal(l, want) {
		c.t.Errorf("P12: Status() = %+v, want %+v", l, want)
	}
}

func (c caller) table(want ...api.Entry) {
	c.t.Helper()
	if l := c.g.Table(); !slices.Equal(l, want) {
		c.t.Errorf("P13: Table() = %+v, want %+v", l, want)
	}
}

func (c caller) lookup(h api.Header, want int) {
	c.t.Helper()
	if n, e := c.g.Lookup(h); n != want || e != api.OK {
		c.t.Errorf("P14: Lookup(%+v) = %d, %d, want %d", h, n, e, want)
	}
}

// states: of the rules in Status, in its order.
func (c caller) states(want ...int) {
	c.t.Helper()
	var states []int
	l := c.g.Status()
	for _, s := range l {
		states = append(states, s.State)
	}
	if !slices.Equal(states, want) {
		c.t.Errorf("P12: Status() = %+v, want the states %v", l, want)
	}
}

// noPeers, noPrefixes, noPaths (nor actions), noRules: wrong inputs, those next to right ones first.
var noPeers = []int{-1, 4, 5, 64, 1 << 32, math.MinInt, math.MaxInt}

var noPrefixes = []api.Prefix{
	prefix(2560, 6), prefix(1, 15), prefix(1, 8), prefix(0x8000, 0), prefix(1, 0), prefix(65535, 15),
	prefix(0, -1), prefix(0, 17), prefix(65535, 17), prefix(0, 64), prefix(0, 80),
	prefix(65536, 16), prefix(65536, 0), prefix(-1, 16), prefix(-65536, 0), prefix(-256, 8),
	prefix(0, math.MinInt), prefix(0, math.MaxInt), prefix(math.MinInt, 0), prefix(math.MaxInt, 16), prefix(math.MinInt, math.MinInt),
}

var noPaths = []int{0, 256, -1, 257, 65536, 1<<32 + 1, math.MinInt, math.MaxInt}

func noRules(t *testing.T) []string {
	var l []string
	for _, s := range []string{
		"", "06", "01", "01 11 00 00 00", "01 08", "01 04 0f", "03 01 06", "03 c1 06", "03 a1 06", "03 91 06",
		"03 81 06 00", "03 81 06 01 00", "05 91 00 02", "01 08 0a 00", "01 08 0a 01 08 0a", "02 00 01 00",
		"03 01 06 01 06 01 06 01 06 01 06 01 06 01 06 01 06 81 06",
	} {
		l = append(l, raw(t, s))
	}
	return l
}
