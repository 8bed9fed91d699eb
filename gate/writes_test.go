package gate_test

import (
	"fmt"
	"math/rand"
	"slices"
	"testing"

	"sluice/api"
)

// P15. That the writes of a call lead from the table ahead of it to the one behind it, are as many as they must be, and leave no packet astray between, is looked at in all tests of this package, at each call (see answered): with some headers there, with all headers here.

func wantWrites(t *testing.T, got []api.Write, want ...api.Write) {
	t.Helper()
	if !slices.Equal(got, want) {
		t.Errorf("P15: writes %+v, want %+v", got, want)
	}
}

// wantKinds: how many of each kind.
func wantKinds(t *testing.T, got []api.Write, inserts, deletes int) {
	t.Helper()
	var n [3]int
	for _, w := range got {
		if w.Kind == api.Insert || w.Kind == api.Delete {
			n[w.Kind]++
		}
	}
	if n != [3]int{0, inserts, deletes} || len(got) != inserts+deletes {
		t.Errorf("P15: %d Insert, %d Delete of %d writes, want %d and %d", n[1], n[2], len(got), inserts, deletes)
	}
}

// every: a call, with all headers looked up between its writes.
func (c caller) every(call func() ([]api.Write, api.Errno)) []api.Write {
	c.t.Helper()
	before := c.g.Table()
	l, e := call()
	after := c.g.Table()
	if s := faultOf(before, after, l, 1<<20); e != api.OK || s != "" {
		c.t.Fatalf("P15: %d, %s; the table was %+v, is %+v; writes: %+v", e, s, before, after, l)
	}
	return l
}

func (c caller) everyAnnounce(peer int, p api.Prefix, path int) []api.Write {
	c.t.Helper()
	return c.every(func() ([]api.Write, api.Errno) { return c.g.Announce(peer, p, path) })
}

func (c caller) everyWithdraw(peer int, p api.Prefix) []api.Write {
	c.t.Helper()
	return c.every(func() ([]api.Write, api.Errno) { return c.g.Withdraw(peer, p) })
}

func (c caller) everyAdd(peer int, rule string, action int) []api.Write {
	c.t.Helper()
	return c.every(func() ([]api.Write, api.Errno) { return c.g.Add(peer, rule, action) })
}

func (c caller) everyRemove(peer int, rule string) []api.Write {
	c.t.Helper()
	return c.every(func() ([]api.Write, api.Errno) { return c.g.Remove(peer, rule) })
}

func (c caller) everyReset(peer int) []api.Write {
	c.t.Helper()
	return c.every(func() ([]api.Write, api.Errno) { return c.g.Reset(peer) })
}

func TestWritesOfExamples(t *testing.T) {
	o := caller{t, open(t, small)}
	rule, p := raw(t, "01 10 0a 01"), prefix(2560, 8)
	in := api.Write{Kind: api.Insert, Entry: api.Entry{Bits: toDst("0000101000000001"), Action: 7, Rule: rule}}
	out := api.Write{Kind: api.Delete}
	wantWrites(t, o.everyAdd(0, rule, 7))
	wantWrites(t, o.everyAnnounce(0, p, 5), in)
	wantWrites(t, o.everyAnnounce(1, p, 4))
	wantWrites(t, o.everyAdd(1, rule, 9))
	wantWrites(t, o.everyAnnounce(2, p, 3), out)
	wantWrites(t, o.everyWithdraw(2, p), in)
	wantWrites(t, o.everyAnnounce(2, prefix(2560, 16), 9))
	wantWrites(t, o.everyAnnounce(2, prefix(2561, 16), 9), out)
	wantWrites(t, o.everyReset(2), in)
	two, more := raw(t, "01 08 0a 04 03 50 c5 52"), raw(t, "01 08 0a 04 03 50 c5 52 05 81 80")
	wantKinds(t, o.everyAdd(0, two, 9), 2, 0)
	wantKinds(t, o.everyAdd(0, more, 8), 2, 2)
	wantKinds(t, o.everyRemove(0, more), 2, 2)
	wantWrites(t, o.everyAdd(0, raw(t, "01 08 0a 04 86 00"), 1)) // Held
	wantWrites(t, o.everyAdd(0, raw(t, "01 08 0a"), 2))          // behind that one
	wantKinds(t, o.everyRemove(0, two), 0, 2)
	wantKinds(t, o.everyRemove(0, raw(t, "01 08 0a 04 86 00")), 1, 0)
}

// TestPlaces: of one entry that comes and goes, at the beginning, in the middle and at the end.
func TestPlaces(t *testing.T) {
	o := permissive(t, 9, 2)
	bits := func(n int) string { return toDst(fmt.Sprintf("%016b", n)) }
	rule := func(n int) string { return string([]byte{1, 16, 0, byte(n)}) }
	in := func(place, n int) api.Write {
		return api.Write{Kind: api.Insert, Place: place, Entry: api.Entry{Bits: bits(n), Action: 10 + n, Rule: rule(n)}}
	}
	for i, n := range []int{4, 2, 6, 3, 7, 1} {
		place := []int{0, 0, 2, 1, 4, 0}[i]
		wantWrites(t, o.everyAdd(i%4, rule(n), 10+n), in(place, n))
	}
	for i, n := range []int{4, 1, 7} {
		place := []int{3, 0, 3}[i]
		wantWrites(t, o.everyRemove([]int{0, 1, 0}[i], rule(n)), api.Write{Kind: api.Delete, Place: place})
	}
}

// TestNoWrites: calls that change nothing in the table, be it that they change nothing at all or what does not stand there.
func TestNoWrites(t *testing.T) {
	o := busy(t, small)
	o.states(busyStates...)
	in, held, invalid := raw(t, "01 10 0a 01"), raw(t, "01 08 0e"), raw(t, "01 10 0a 02")
	for _, l := range [][]api.Write{
		o.everyAnnounce(0, prefix(0, 0), 5),      // the same again
		o.everyAnnounce(0, prefix(0, 0), 255),    // another path
		o.everyAnnounce(1, prefix(0, 0), 1),      // a better one, of the same network
		o.everyAnnounce(2, prefix(0, 0), 2),      // a worse one, of another
		o.everyAnnounce(3, prefix(0x8000, 1), 2), // where no rule is
		o.everyWithdraw(3, prefix(0x8000, 1)),
		o.everyWithdraw(2, prefix(0, 0)),
		o.everyWithdraw(1, prefix(0, 0)),
		o.everyAdd(0, in, 1), // the same again
		o.everyAdd(1, in, 99),
		o.everyAdd(0, held, 99),
		o.everyAdd(0, invalid, 99),
		o.everyAdd(2, in, 99),
		o.everyAdd(0, raw(t, "02 00"), 99),
		o.everyAdd(0, raw(t, "01 10 0a 01 04 80 00"), 99), // of no cubes
		o.everyRemove(0, raw(t, "01 10 0a 01 04 80 00")),
		o.everyRemove(0, raw(t, "02 00")),
		o.everyRemove(2, in),
		o.everyRemove(1, in), // Beaten
		o.everyRemove(0, held),
		o.everyRemove(0, invalid),
		o.everyReset(3), // it has nothing
		o.everyReset(1), // nothing that is In
	} {
		wantWrites(t, l)
	}
	o.states(api.In, api.In, api.In, api.Held)
}

// TestWritesBesideErrors: there are none; that the table stays is looked at by each call.
func TestWritesBesideErrors(t *testing.T) {
	for _, c := range []api.Config{small, sized(1, 1), sized(128, 64)} {
		o := busy(t, c)
		before := o.g.Table()
		o.wrongCalls()
		o.wrongLookups()
		o.table(before...)
	}
}

// TestAnotherAction: each entry of the rule goes, and one comes; the others stay.
func TestAnotherAction(t *testing.T) {
	for _, c := range cubes[:6] {
		o := permissive(t, 128, 64)
		o.addAll("01 10 0a 01", c.rule, "01 08 0a", "01 00")
		wantKinds(t, o.everyAdd(0, raw(t, c.rule), 8), c.count, c.count)
		wantKinds(t, o.everyAdd(0, raw(t, c.rule), 8), 0, 0)
		wantKinds(t, o.everyAdd(0, raw(t, c.rule), 7), c.count, c.count)
		// By another peer, of a lower number, and when that one is gone.
		o.everyAdd(2, raw(t, c.rule), 9)
		wantKinds(t, o.everyRemove(0, raw(t, c.rule)), c.count, c.count)
		wantKinds(t, o.everyAdd(0, raw(t, c.rule), 10), c.count, c.count)
		wantKinds(t, o.everyAdd(0, raw(t, c.rule), 9), c.count, c.count)
		wantKinds(t, o.everyRemove(0, raw(t, c.rule)), 0, 0) // that of peer 2 is of the same action
	}
}

// TestExactlyCapacity: where the table is full, a rule comes in only as others go.
func TestExactlyCapacity(t *testing.T) {
	o := permissive(t, 128, 64)
	first, second, last := raw(t, "01 10 0a 00 05 81 02"), raw(t, "01 08 0a 05 81 02"), raw(t, "01 00 05 81 02")
	wantKinds(t, o.everyAdd(0, last, 1), 64, 0)
	wantKinds(t, o.everyAdd(0, second, 2), 64, 0)
	wantKinds(t, o.everyAdd(0, first, 3), 64, 64)
	wantKinds(t, o.everyAdd(0, first, 4), 64, 64)
	wantKinds(t, o.everyAdd(0, raw(t, "01 08 0a"), 5), 0, 0)
	wantKinds(t, o.everyAdd(0, raw(t, "01 10 0a 00"), 6), 1, 64) // all behind it are Held
	wantKinds(t, o.everyRemove(0, second), 1, 0)
	wantKinds(t, o.everyRemove(0, raw(t, "01 10 0a 00")), 0, 1)
	wantKinds(t, o.everyRemove(0, raw(t, "01 08 0a")), 64, 1)
	wantKinds(t, o.everyRemove(0, first), 0, 64)
	wantKinds(t, o.everyReset(0), 0, 64)
}

// twoNetworks: a gate in which the rules of peer 0 hold, and those of peer 1 would, if it had the best route.
func twoNetworks(t *testing.T, capacity, budget int) caller {
	t.Helper()
	o := caller{t, open(t, api.Config{Capacity: capacity, Budget: budget, Net: [4]int{1, 2, 3, 3}})}
	o.announce(0, prefix(0, 0), 5, api.OK)
	return o
}

// TestAllAtOnce: a route turns all 128 entries, so that 256 stand there between.
func TestAllAtOnce(t *testing.T) {
	o := twoNetworks(t, 128, 64)
	for i, s := range []string{"01 10 0a 00 05 81 02", "01 00 05 81 02"} {
		o.add(0, raw(t, s), 1+i, api.OK)
		o.add(1, raw(t, s), 3+i, api.OK)
	}
	wantKinds(t, o.everyAnnounce(1, prefix(0, 0), 4), 128, 128)
	wantKinds(t, o.everyWithdraw(1, prefix(0, 0)), 128, 128)
	wantKinds(t, o.everyAnnounce(2, prefix(0, 0), 4), 0, 128)
	wantKinds(t, o.everyAnnounce(1, prefix(0, 0), 3), 128, 0)
	o.everyReset(2)
	wantKinds(t, o.everyReset(1), 128, 128)
	wantKinds(t, o.everyReset(0), 0, 128)
}

// TestManyRulesAtOnce: rules that lie within one another, none of which is the other network's.
func TestManyRulesAtOnce(t *testing.T) {
	o := twoNetworks(t, 128, 64)
	for i := range 12 {
		o.add(0, string([]byte{1, 8, 10, 4, 0x03, 80, 0xc5, byte(81 + i)}), 1+i, api.OK)
		o.add(1, string([]byte{1, 8, 10, 4, 0x03, byte(80 + i), 0xc5, 93}), 101+i, api.OK)
	}
	there := len(o.g.Table())
	if there < 24 {
		t.Fatalf("%d entries", there)
	}
	l := o.everyAnnounce(1, prefix(0, 0), 4)
	wantKinds(t, l, len(o.g.Table()), there)
	wantKinds(t, o.everyWithdraw(1, prefix(0, 0)), there, len(l)-there)
}

// TestStandInBoth: entries that the call does not touch are among those that it does, ahead of them and behind.
func TestStandInBoth(t *testing.T) {
	o := caller{t, open(t, api.Config{Capacity: 20, Budget: 4, Net: [4]int{1, 2, 3, 3}})}
	o.announce(0, prefix(0, 0), 5, api.OK)
	o.announce(0, prefix(0x0a00, 8), 5, api.OK)
	o.announce(2, prefix(0x0b00, 8), 5, api.OK)
	for i, s := range []string{"01 10 0a 01", "01 10 0a 02 05 80 c0", "01 10 0b 01", "01 08 0a 05 80 c0", "01 08 0a", "01 08 0b 05 80 e0", "01 08 0c"} {
		for peer := range 3 {
			o.add(peer, raw(t, s), 1+10*peer+i, api.OK)
		}
	}
	// Of peer 0: 1 + 2, 2 + 1 and 1 entries; of peer 2: 1 and 3.
	if n := len(o.g.Table()); n != 11 {
		t.Fatalf("%d entries, want 11", n)
	}
	wantKinds(t, o.everyAnnounce(1, prefix(0x0a00, 8), 4), 6, 6)
	wantKinds(t, o.everyAnnounce(3, prefix(0x0a01, 16), 4), 1, 1+3) // peer 2's comes in place of peer 1's, and the shorter ones do not hold any more
	wantKinds(t, o.everyAnnounce(1, prefix(0x0b00, 8), 4), 4, 4)
	wantKinds(t, o.everyAnnounce(2, prefix(0x0a01, 16), 3), 0, 0)
	wantKinds(t, o.everyReset(3), 0, 0)
	wantKinds(t, o.everyReset(1), 2+4, 2+4)
	wantKinds(t, o.everyReset(2), 1+3+4, 1+4)
}

// TestWritesOfReset: routes and rules go in one call; what of others comes of that is in its writes too.
func TestWritesOfReset(t *testing.T) {
	o := twoNetworks(t, 4, 2)
	o.announce(1, prefix(0x0a00, 8), 5, api.OK)
	o.add(0, raw(t, "01 08 0a"), 1, api.OK) // not its own, as long as peer 1 has that route
	o.add(0, raw(t, "01 08 0b"), 2, api.OK)
	o.add(1, raw(t, "01 10 0a 01"), 3, api.OK)
	o.add(1, raw(t, "01 08 0a"), 4, api.OK)
	o.add(1, raw(t, "01 08 0b"), 5, api.OK)
	o.states(api.In, api.Invalid, api.In, api.In, api.Invalid)
	wantKinds(t, o.everyReset(2), 0, 0)
	wantKinds(t, o.everyReset(1), 1, 2)
	o.states(api.In, api.In)
	wantKinds(t, o.everyReset(1), 0, 0)
	wantKinds(t, o.everyReset(0), 0, 2)
	wantKinds(t, o.everyReset(0), 0, 0)
}

// TestWritesInAnyOrder: many calls on gates of two networks whose rules overlap, with all headers looked up between the writes of each.
func TestWritesInAnyOrder(t *testing.T) {
	var rules []string
	for _, s := range []string{
		"01 00", "01 04 00", "01 08 0a", "01 10 0a 01", "01 08 0a 02 08 0c", "01 08 0a 03 81 06", "01 00 03 81 06", "01 08 0a 04 03 50 c5 52",
		"01 08 0a 04 03 51 c5 53", "01 00 04 03 50 c5 53", "01 00 05 80 c0", "01 10 0a 01 05 80 e0", "01 08 0a 04 80 00", "01 00 04 87 00",
	} {
		rules = append(rules, raw(t, s))
	}
	prefixes := []api.Prefix{prefix(0, 0), prefix(0x0a00, 8), prefix(0x0a01, 16)}
	most := 0
	for seed := range int64(12) {
		random := rand.New(rand.NewSource(seed))
		o := caller{t, open(t, api.Config{Capacity: 1 + random.Intn(24), Budget: 1 + random.Intn(4), Net: [4]int{1, 2, 1, 2}})}
		for range 120 {
			peer, rule, p := random.Intn(4), pick(random, rules), pick(random, prefixes)
			l := o.every(func() ([]api.Write, api.Errno) {
				switch n := random.Intn(20); {
				case n < 6:
					return o.g.Announce(peer, p, 1+random.Intn(9))
				case n < 7 && len(o.g.Status()) > 12:
					return o.g.Reset(peer)
				case len(o.g.Status()) > 20:
					return o.g.Reset(peer)
				}
				return o.g.Add(peer, rule, 1+random.Intn(9))
			})
			most = max(most, len(l))
		}
	}
	if most < 16 {
		t.Errorf("no call had more than %d writes", most)
	}
}
