package gate_test

import (
	"math"
	"testing"

	"sluice/api"
)

// P14, and the document's examples 7 to 10 as far as Lookup goes.

func TestLookupOfExamples(t *testing.T) {
	o := caller{t, open(t, small)}
	o.add(0, raw(t, "01 10 0a 01"), 7, api.OK)
	o.lookup(api.Header{Dst: 2561}, api.Permit)
	o.announce(0, prefix(2560, 8), 5, api.OK)
	o.lookup(api.Header{Dst: 2561}, 7)
	o.lookup(api.Header{Dst: 2562}, api.Permit)
	o.lookup(api.Header{Dst: 2560}, api.Permit)
	o.announce(2, prefix(2560, 8), 3, api.OK)
	o.lookup(api.Header{Dst: 2561}, api.Permit)
	o.withdraw(2, prefix(2560, 8), api.OK)
	o.lookup(api.Header{Dst: 2561}, 7)
	o.add(0, raw(t, "01 08 0a 04 03 50 c5 52"), 9, api.OK)
	o.lookup(api.Header{Dst: 2561, Port: 81}, 7)
	for port, want := range map[int]int{79: 0, 80: 9, 81: 9, 82: 9, 83: 0} {
		o.lookup(api.Header{Dst: 2562, Port: port, Flags: 255}, want)
	}
	o.add(0, raw(t, "01 08 0a 04 03 50 c5 52 05 81 80"), 8, api.OK)
	o.lookup(api.Header{Dst: 2562, Port: 81}, api.Permit) // that rule is Held now
	o.lookup(api.Header{Dst: 2562, Port: 81, Flags: 0x80}, 8)
	o.lookup(api.Header{Dst: 2561, Port: 81, Flags: 0x80}, 7)
}

// noHeaders: one wrong field each, with and without the mark, and all of them wrong.
func noHeaders() []api.Header {
	var l []api.Header
	for _, later := range []bool{false, true} {
		for _, n := range []int{-1, 65536, -65536, 1 << 32, 1<<32 + 2561, math.MinInt, math.MaxInt} {
			l = append(l, api.Header{Dst: n, Later: later}, api.Header{Dst: 2561, Src: n, Later: later}, api.Header{Dst: 2561, Port: n, Later: later})
		}
		for _, n := range []int{-1, 256, 257, 65535, -256, 1 << 32, 1<<32 + 6, math.MinInt, math.MaxInt} {
			l = append(l, api.Header{Dst: 2561, Proto: n, Later: later}, api.Header{Dst: 2561, Flags: n, Later: later})
		}
		l = append(l, api.Header{Dst: -1, Src: -1, Proto: -1, Port: -1, Flags: -1, Later: later})
	}
	return l
}

func (c caller) wrongLookups() {
	c.t.Helper()
	for _, h := range noHeaders() {
		if n, e := c.g.Lookup(h); n != 0 || e != api.ErrHeader {
			c.t.Errorf("P14: Lookup(%+v) = %d, %d, want 0, %d", h, n, e, api.ErrHeader)
		}
	}
}

// TestLookupOfNoHeaders: where there is no entry, and where one fits whatever it is.
func TestLookupOfNoHeaders(t *testing.T) {
	o := caller{t, open(t, small)}
	o.wrongLookups()
	o.announce(0, prefix(0, 0), 5, api.OK)
	o.wrongLookups()
	o.add(0, "\x01\x00", 7, api.OK)
	o.wrongLookups()
	o.add(0, raw(t, "01 10 0a 01"), 8, api.OK)
	o.wrongLookups()
	o.table(api.Entry{Bits: toDst("0000101000000001"), Action: 8, Rule: raw(t, "01 10 0a 01")}, api.Entry{Bits: toDst(""), Action: 7, Rule: "\x01\x00"})
}

// TestLookupAtTheEdges: each field at its least and its greatest number.
func TestLookupAtTheEdges(t *testing.T) {
	o := permissive(t, 128, 64)
	edges := []api.Header{
		{}, {Dst: 65535}, {Src: 65535}, {Proto: 255}, {Port: 65535}, {Flags: 255},
		{Dst: 65535, Src: 65535, Proto: 255, Port: 65535, Flags: 255},
	}
	for _, later := range []bool{false, true} {
		for _, h := range edges {
			h.Later = later
			o.lookup(h, api.Permit)
		}
	}
	o.add(0, "\x01\x00", 255, api.OK)
	for _, later := range []bool{false, true} {
		for _, h := range edges {
			h.Later = later
			o.lookup(h, 255)
		}
	}
}

// TestLookupLooksAtEachField: an entry that says all of a header fits that header, and none that differs in a bit.
func TestLookupLooksAtEachField(t *testing.T) {
	o := permissive(t, 1, 1)
	o.add(0, raw(t, "01 10 0a 01 02 10 50 03 03 81 06 04 91 12 34 05 01 5a c2 a5"), 7, api.OK)
	h := api.Header{Dst: 0x0a01, Src: 0x5003, Proto: 6, Port: 0x1234, Flags: 0x5a}
	o.table(api.Entry{Bits: bitsOf(h), Action: 7, Rule: raw(t, "01 10 0a 01 02 10 50 03 03 81 06 04 91 12 34 05 01 5a c2 a5")})
	o.lookup(h, 7)
	for i := range 16 {
		for _, other := range []api.Header{{Dst: 1 << i}, {Src: 1 << i}, {Proto: 1 << i & 255}, {Port: 1 << i}, {Flags: 1 << i & 255}} {
			if other != (api.Header{}) {
				o.lookup(api.Header{Dst: h.Dst ^ other.Dst, Src: h.Src ^ other.Src, Proto: h.Proto ^ other.Proto, Port: h.Port ^ other.Port, Flags: h.Flags ^ other.Flags}, api.Permit)
			}
		}
	}
	h.Later = true
	o.lookup(h, api.Permit)
}

// TestLookupOfSeveral: where several entries fit, the first says what becomes of it, be it the longest or not.
func TestLookupOfSeveral(t *testing.T) {
	o := permissive(t, 8, 2)
	rules := []string{"01 10 0a 01 03 81 06", "01 10 0a 01", "01 08 0a 02 08 0c", "01 08 0a 03 81 06", "01 08 0a", "01 00 03 81 06", "01 00"}
	for i := len(rules) - 1; i >= 0; i-- {
		o.add(i%4, raw(t, rules[i]), 10+i, api.OK)
	}
	for _, c := range []struct {
		h    api.Header
		want int
	}{
		{api.Header{Dst: 0x0a01, Src: 0x0c00, Proto: 6}, 10},
		{api.Header{Dst: 0x0a01, Src: 0x0c00, Proto: 7}, 11},
		{api.Header{Dst: 0x0a02, Src: 0x0c00, Proto: 6}, 12},
		{api.Header{Dst: 0x0a02, Src: 0x0d00, Proto: 6}, 13},
		{api.Header{Dst: 0x0a02, Src: 0x0d00, Proto: 7}, 14},
		{api.Header{Dst: 0x0b01, Src: 0x0c00, Proto: 6}, 15},
		{api.Header{Dst: 0x0b01, Src: 0x0c00, Proto: 7}, 16},
	} {
		o.lookup(c.h, c.want)
		c.h.Later, c.h.Port, c.h.Flags = true, 80, 2
		o.lookup(c.h, c.want)
	}
	for i := range rules {
		o.lookup(api.Header{Dst: 0x0a01, Src: 0x0c00, Proto: 6}, 10+i)
		o.remove(i%4, raw(t, rules[i]), api.OK)
	}
	o.lookup(api.Header{Dst: 0x0a01, Src: 0x0c00, Proto: 6}, api.Permit)
}

// TestLookupOfLater: what stands in port and flags of a later fragment means nothing, and no rule that looks at them takes it, even one that takes all numbers.
func TestLookupOfLater(t *testing.T) {
	o := permissive(t, 8, 2)
	o.add(0, raw(t, "01 08 0a 04 81 50"), 1, api.OK)
	o.add(0, raw(t, "01 08 0b 04 87 00"), 2, api.OK)
	o.add(0, raw(t, "01 08 0c 05 81 00"), 3, api.OK) // every flag of none
	o.add(0, raw(t, "01 08 0d 03 81 06"), 4, api.OK)
	o.lookup(api.Header{Dst: 0x0a00, Port: 80}, 1)
	o.lookup(api.Header{Dst: 0x0a00, Port: 81}, api.Permit)
	o.lookup(api.Header{Dst: 0x0a00, Port: 80, Later: true}, api.Permit)
	for _, n := range []int{0, 1, 80, 254, 255} {
		o.lookup(api.Header{Dst: 0x0b00, Port: n, Flags: n}, 2)
		o.lookup(api.Header{Dst: 0x0c00, Port: n, Flags: n}, 3)
		o.lookup(api.Header{Dst: 0x0d00, Proto: 6, Port: n, Flags: n}, 4)
		o.lookup(api.Header{Dst: 0x0b00, Port: n, Flags: n, Later: true}, api.Permit)
		o.lookup(api.Header{Dst: 0x0c00, Port: n, Flags: n, Later: true}, api.Permit)
		o.lookup(api.Header{Dst: 0x0d00, Proto: 6, Port: n, Flags: n, Later: true}, 4)
	}
	o.add(0, "\x01\x00", 5, api.OK)
	o.lookup(api.Header{Dst: 0x0a00, Port: 80, Later: true}, 5)
	o.lookup(api.Header{Dst: 0x0b00, Later: true}, 5)
}

// TestLookupOfWhatIsNotIn: rules of other states say nothing.
func TestLookupOfWhatIsNotIn(t *testing.T) {
	o := permissive(t, 1, 1)
	o.add(1, raw(t, "01 08 0a"), 1, api.OK)
	o.add(2, raw(t, "01 08 0a"), 2, api.OK)
	o.add(0, raw(t, "01 08 0b"), 3, api.OK)
	o.add(0, raw(t, "02 00"), 4, api.OK)
	o.states(api.In, api.Beaten, api.Held, api.Invalid)
	o.lookup(api.Header{Dst: 0x0a00}, 1)
	o.lookup(api.Header{Dst: 0x0b00}, api.Permit)
	o.remove(1, raw(t, "01 08 0a"), api.OK)
	o.lookup(api.Header{Dst: 0x0a00}, 2)
	o.remove(2, raw(t, "01 08 0a"), api.OK)
	o.lookup(api.Header{Dst: 0x0a00}, api.Permit)
	o.lookup(api.Header{Dst: 0x0b00}, 3)
	o.reset(0, api.OK)
	o.lookup(api.Header{Dst: 0x0b00}, api.Permit)
}
