package gate_test

import (
	"slices"
	"testing"

	"sluice/api"
)

// P1 and P2, as far as gates go.

// busy: a gate with routes of several networks and rules of every state.
func busy(t *testing.T, c api.Config) caller {
	t.Helper()
	o := caller{t, open(t, c)}
	o.announce(0, prefix(0, 0), 5, api.OK)
	o.announce(2, prefix(2560, 8), 5, api.OK)
	o.announce(0, prefix(2561, 16), 5, api.OK)
	for i, s := range []string{"01 10 0a 01", "01 10 0a 02", "01 08 0b", "01 08 0c", "01 08 0d 05 80 e0", "01 08 0e"} {
		o.add(0, raw(t, s), 1+i, api.OK)
		o.add(1, raw(t, s), 11+i, api.OK)
	}
	return o
}

var busyStates = []int{
	api.In, api.Beaten, api.Invalid, api.Invalid, api.In, api.Beaten,
	api.In, api.Beaten, api.Held, api.Beaten, api.Held, api.Beaten,
}

// wrongCalls: each kind of error that a call can answer, with every other argument such that the call would change something.
func (c caller) wrongCalls() {
	c.t.Helper()
	rule, other := raw(c.t, "01 10 0a 01"), raw(c.t, "01 10 0a 03")
	for _, peer := range noPeers {
		c.announce(peer, prefix(2561, 16), 1, api.ErrPeer)
		c.withdraw(peer, prefix(2561, 16), api.ErrPeer)
		c.add(peer, other, 99, api.ErrPeer)
		c.remove(peer, rule, api.ErrPeer)
		c.reset(peer, api.ErrPeer)
	}
	for peer := range 4 {
		for _, p := range noPrefixes {
			c.announce(peer, p, 1, api.ErrPrefix)
			c.withdraw(peer, p, api.ErrPrefix)
		}
		for _, n := range noPaths {
			c.announce(peer, prefix(2561, 16), n, api.ErrPath)
			c.announce(peer, prefix(2816, 8), n, api.ErrPath)
			c.add(peer, rule, n, api.ErrAction)
			c.add(peer, other, n, api.ErrAction)
		}
		for _, s := range noRules(c.t) {
			c.add(peer, s, 99, api.ErrForm)
			c.remove(peer, s, api.ErrForm)
		}
		c.withdraw(peer, prefix(4096, 4), api.ErrNone)
		c.remove(peer, other, api.ErrNone)
	}
	c.withdraw(1, prefix(2561, 16), api.ErrNone)
	c.remove(2, rule, api.ErrNone)
}

// sameRoutes: that there are the routes of busy and no others, by what becomes of the rules as they go.
func (c caller) sameRoutes() {
	c.t.Helper()
	for peer := 1; peer < 4; peer++ {
		for _, p := range []api.Prefix{prefix(0, 0), prefix(2561, 16), prefix(2816, 8)} {
			c.withdraw(peer, p, api.ErrNone)
		}
	}
	c.withdraw(0, prefix(2561, 16), api.OK)
	c.states(0, 0, 0, 0, api.In, api.Beaten, api.In, api.Beaten, api.Held, api.Beaten, api.Held, api.Beaten)
	c.withdraw(2, prefix(2560, 8), api.OK)
	c.states(api.In, api.Beaten, api.In, api.Beaten, api.In, api.Beaten, api.Held, api.Beaten, api.Held, api.Beaten, api.Held, api.Beaten)
	c.withdraw(0, prefix(0, 0), api.OK)
	c.states(0, 0, 0, 0, 0, 0, 0, 0, 0, 0, 0, 0)
}

func TestErrorsChangeNothing(t *testing.T) {
	o := busy(t, small)
	o.states(busyStates...)
	before := o.g.Status()
	table := o.g.Table()
	o.wrongCalls()
	o.wrongLookups()
	o.status(before...)
	o.table(table...)
	o.sameRoutes()
}

// TestFullChangesNothing: a route that finds no room would have changed what holds, a rule would have stood in Status.
func TestFullChangesNothing(t *testing.T) {
	o := busy(t, small)
	for i := range 21 {
		o.announce(3, prefix(0x8000+i, 16), 5, api.OK)
	}
	for i := range 12 {
		o.add(3, string([]byte{1, 8, 128 + byte(i)}), 5, api.OK)
	}
	before := o.g.Status()
	o.announce(3, prefix(2561, 16), 1, api.ErrFull)
	o.announce(1, prefix(2560, 8), 1, api.ErrFull)
	o.add(2, raw(t, "01 10 0a 01"), 99, api.ErrFull)
	o.add(3, raw(t, "01 10 0a 03"), 99, api.ErrFull)
	o.status(before...)
	o.remove(2, raw(t, "01 10 0a 01"), api.ErrNone)
	o.reset(3, api.OK)
	o.states(busyStates...)
	o.sameRoutes()
}

// TestAskingChangesNothing: of Status, Table and Lookup, however often and in whatever order.
func TestAskingChangesNothing(t *testing.T) {
	o := busy(t, small)
	status, table := o.g.Status(), o.g.Table()
	for range 3 {
		o.status(status...)
		o.lookup(api.Header{Dst: 0x0a01}, 1)
		o.lookup(api.Header{Dst: 0x0a02}, api.Permit)
		o.table(table...)
		o.lookup(api.Header{Dst: 0x0b07, Later: true}, 3)
	}
	o.sameRoutes()
}

// scribble writes all over a list, and over its spare room.
func scribble[T any](l []T, other T) {
	whole := l[:cap(l)]
	for i := range whole {
		whole[i] = other
	}
	_ = append(l, other)
}

func scribbleStatus(l []api.Status) {
	scribble(l, api.Status{Rule: "other", Peer: 99, Action: 99, State: 99})
}

func scribbleTable(l []api.Entry) {
	scribble(l, api.Entry{Bits: "other", Action: 99, Rule: "other"})
}

func scribbleWrites(l []api.Write) {
	scribble(l, api.Write{Kind: 99, Place: 99, Entry: api.Entry{Bits: "other", Action: 99, Rule: "other"}})
}

// TestListsAreFresh: with every number of rules, so that the lists have spare room of many sizes.
func TestListsAreFresh(t *testing.T) {
	for _, room := range []int{5, 128} {
		o := permissive(t, room, 3)
		for n := range 24 {
			first, second := o.g.Status(), o.g.Status()
			one, two := o.g.Table(), o.g.Table()
			status, table := slices.Clone(second), slices.Clone(two)
			scribbleStatus(first)
			scribbleTable(one)
			if !slices.Equal(second, status) || !slices.Equal(two, table) {
				t.Errorf("P2: a list was changed with another: %+v, %+v", second, two)
			}
			o.status(status...)
			o.table(table...)
			writes := o.add(n%4, string([]byte{1, 8, byte(n * 7 % 24), 5, 0x80, 0xc0}), 7, api.OK)
			status, table = o.g.Status(), o.g.Table()
			scribbleStatus(second)
			scribbleTable(two)
			scribbleWrites(writes)
			o.status(status...)
			o.table(table...)
		}
	}
}

// TestWritesAreFresh: those of each call, while those of the calls before lie about, and are written into.
func TestWritesAreFresh(t *testing.T) {
	o, twin := busy(t, sized(128, 64)), busy(t, sized(128, 64))
	var lists, copies [][]api.Write
	for _, call := range []func(c caller) []api.Write{
		func(c caller) []api.Write { return c.add(0, raw(t, "01 08 0d 05 80 e0"), 99, api.OK) },
		func(c caller) []api.Write { return c.remove(0, raw(t, "01 08 0d 05 80 e0"), api.OK) },
		func(c caller) []api.Write { return c.add(3, raw(t, "01 08 09 05 80 e0"), 99, api.OK) },
		func(c caller) []api.Write { return c.announce(0, prefix(0x0d00, 8), 5, api.OK) },
		func(c caller) []api.Write { return c.withdraw(0, prefix(0, 0), api.OK) },
		func(c caller) []api.Write { return c.announce(2, prefix(0, 0), 5, api.OK) },
		func(c caller) []api.Write { return c.reset(0, api.OK) },
		func(c caller) []api.Write { return c.reset(2, api.OK) },
	} {
		l := call(o)
		lists = append(lists, l)
		copies = append(copies, slices.Clone(l))
		for i := range lists {
			if !slices.Equal(lists[i], copies[i]) {
				t.Errorf("P2: the writes of call %d were changed by a later one: %+v, were %+v", i, lists[i], copies[i])
			}
		}
		other := call(twin)
		if len(l) == 0 && len(lists) != 4 || !slices.Equal(l, other) {
			t.Errorf("P2: the writes are %+v, those of a gate of the same calls %+v", l, other)
		}
		scribbleWrites(other)
		if !slices.Equal(l, copies[len(copies)-1]) {
			t.Errorf("P2: the writes were changed with those of another gate: %+v", l)
		}
		twin.table(o.g.Table()...)
	}
}

// TestOldListsStay: what came out does not follow what happens later.
func TestOldListsStay(t *testing.T) {
	o := busy(t, small)
	l, entries := o.g.Status(), o.g.Table()
	before, table := slices.Clone(l), slices.Clone(entries)
	o.add(0, raw(t, "01 10 0a 01"), 200, api.OK)
	o.add(3, raw(t, "01 10 00 00"), 200, api.OK)
	o.withdraw(2, prefix(2560, 8), api.OK)
	o.remove(0, raw(t, "01 10 0a 02"), api.OK)
	o.reset(1, api.OK)
	o.reset(0, api.OK)
	if !slices.Equal(l, before) || !slices.Equal(entries, table) {
		t.Errorf("P2: a list was changed by later calls: %+v, %+v, was %+v, %+v", l, entries, before, table)
	}
}

// TestGatesStandApart: gates of the same configuration and of others, made before and after.
func TestGatesStandApart(t *testing.T) {
	empty := caller{t, open(t, small)}
	one, two := busy(t, small), busy(t, small)
	wide := busy(t, sized(128, 64))
	wide.states(3, 1, 3, 1, 3, 1, 3, 1, 3, 1, 3, 1)
	before, table := two.g.Status(), two.g.Table()
	one.add(0, raw(t, "01 10 0a 01"), 200, api.OK)
	one.announce(3, prefix(2561, 16), 1, api.OK)
	one.remove(0, raw(t, "01 08 0b"), api.OK)
	one.wrongCalls()
	scribbleStatus(one.g.Status())
	scribbleTable(one.g.Table())
	scribbleWrites(one.reset(0, api.OK))
	two.status(before...)
	two.table(table...)
	two.lookup(api.Header{Dst: 0x0a01}, 1)
	one.lookup(api.Header{Dst: 0x0a01}, api.Permit)
	two.sameRoutes()
	empty.status()
	empty.table()
	empty.withdraw(0, prefix(0, 0), api.ErrNone)
	wide.states(3, 1, 3, 1, 3, 1, 3, 1, 3, 1, 3, 1)
}

// TestConfigIsNotKept: the caller's configuration is the caller's, and the gate's does not follow it.
func TestConfigIsNotKept(t *testing.T) {
	c := small
	o := busy(t, c)
	if c != small {
		t.Errorf("P2: New wrote into its configuration: %+v", c)
	}
	c.Capacity, c.Budget, c.Net = 128, 64, [4]int{9, 9, 9, 9}
	o.states(busyStates...)
	o.sameRoutes()
}
