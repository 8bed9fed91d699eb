package gate_test

import (
	"slices"
	"testing"

	"sluice/api"
)

// P12, and the document's examples 7 to 11 as far as Status goes.

func TestExamples(t *testing.T) {
	o := caller{t, open(t, small)}
	rule, p := raw(t, "01 10 0a 01"), prefix(2560, 8)
	peer0 := func(state int) api.Status { return api.Status{Rule: rule, Peer: 0, Action: 7, State: state} }
	peer1 := func(state int) api.Status { return api.Status{Rule: rule, Peer: 1, Action: 9, State: state} }
	o.add(0, rule, 7, api.OK)
	o.status(peer0(api.Invalid))
	o.announce(0, p, 5, api.OK)
	o.status(peer0(api.In))
	o.announce(1, p, 4, api.OK)
	o.status(peer0(api.In))
	o.add(1, rule, 9, api.OK)
	o.status(peer0(api.In), peer1(api.Beaten))
	o.announce(2, p, 3, api.OK)
	o.status(peer0(api.Invalid), peer1(api.Invalid))
	o.withdraw(2, p, api.OK)
	o.status(peer0(api.In), peer1(api.Beaten))
	o.announce(2, prefix(2560, 16), 9, api.OK)
	o.status(peer0(api.In), peer1(api.Beaten))
	o.announce(2, prefix(2561, 16), 9, api.OK)
	o.status(peer0(api.Invalid), peer1(api.Invalid))
}

func TestExamplesOfRoom(t *testing.T) {
	o := caller{t, open(t, small)}
	one, two, more := raw(t, "01 10 0a 01"), raw(t, "01 08 0a 04 03 50 c5 52"), raw(t, "01 08 0a 04 03 50 c5 52 05 81 80")
	o.add(0, one, 7, api.OK)
	o.announce(0, prefix(2560, 8), 5, api.OK)
	o.add(0, two, 9, api.OK)
	o.status(api.Status{Rule: one, Action: 7, State: api.In}, api.Status{Rule: two, Action: 9, State: api.In})
	o.add(0, more, 8, api.OK)
	o.status(api.Status{Rule: one, Action: 7, State: api.In}, api.Status{Rule: more, Action: 8, State: api.In}, api.Status{Rule: two, Action: 9, State: api.Held})
	o.add(0, raw(t, "01 08 0a 04 86 00"), 1, api.OK)
	o.states(api.In, api.In, api.Held, api.Held)
	o.remove(0, more, api.OK)
	o.remove(0, two, api.OK)
	o.states(api.In, api.Held)
	o.add(0, raw(t, "01 08 0a"), 1, api.OK)
	o.states(api.In, api.Held, api.Held)
}

// permissive: a gate in which every rule holds that names a destination.
func permissive(t *testing.T, capacity, budget int) caller {
	t.Helper()
	o := caller{t, open(t, sized(capacity, budget))}
	o.announce(0, prefix(0, 0), 5, api.OK)
	return o
}

// addAll adds rules of peer 0, in the order in which they go, which is looked at.
func (c caller) addAll(rules ...string) {
	c.t.Helper()
	var want []string
	for _, s := range rules {
		want = append(want, raw(c.t, s))
		c.add(0, want[len(want)-1], 7, api.OK)
	}
	var got []string
	for _, s := range c.g.Status() {
		got = append(got, s.Rule)
	}
	if !slices.Equal(got, want) {
		c.t.Errorf("P12: Status has the rules % x, want % x", got, want)
	}
}

// TestOrder: in whatever order they were added, and whether they hold or not.
func TestOrder(t *testing.T) {
	rules := []string{
		"01 10 0a 01 03 81 06", "01 10 0a 01", "01 0f 0a 00", "01 08 0a 02 08 0c", "01 08 0a 03 81 06", "01 08 0a", "01 08 0b",
		"01 07 0a", "01 10 80 00", "01 01 80", "01 00", "02 10 ff ff", "02 00", "03 01 06 81 07", "03 81 06", "04 81 50", "05 81 01",
	}
	n := len(rules)
	for _, stride := range []int{1, 3, 5, 7, 16} {
		o := caller{t, open(t, sized(128, 64))}
		var want []api.Status
		for i, s := range rules {
			k := (i * stride) % n
			o.add(k%4, raw(t, rules[k]), 1+k, api.OK)
			want = append(want, api.Status{Rule: raw(t, s), Peer: i % 4, Action: 1 + i})
		}
		o.status(want...)
		o.announce(3, prefix(0, 0), 5, api.OK)
		for i := range 11 {
			want[i].State = api.In
		}
		o.status(want...)
		// One in place of another stays where it is.
		o.add(2, raw(t, rules[10]), 200, api.OK)
		want[10].Action = 200
		o.status(want...)
	}
}

// TestSameRuleOfSeveralPeers: by rising number of the peer, in whatever order they came; of those that hold the lowest is taken.
func TestSameRuleOfSeveralPeers(t *testing.T) {
	rule, next := raw(t, "01 08 0a"), raw(t, "01 08 0b")
	for _, order := range [][]int{{0, 1, 2, 3}, {3, 2, 1, 0}, {2, 0, 3, 1}, {1, 3, 0, 2}} {
		o := caller{t, open(t, api.Config{Capacity: 8, Budget: 2, Net: [4]int{1, 2, 2, 1}})}
		for _, peer := range order {
			o.add(peer, next, 20+peer, api.OK)
			o.add(peer, rule, 10+peer, api.OK)
		}
		status := func(states ...int) {
			t.Helper()
			var want []api.Status
			for i, state := range states {
				want = append(want, api.Status{Rule: rule, Peer: i, Action: 10 + i, State: state})
			}
			for i := range 4 {
				want = append(want, api.Status{Rule: next, Peer: i, Action: 20 + i})
			}
			o.status(want...)
		}
		status(0, 0, 0, 0)
		o.announce(2, prefix(2560, 8), 5, api.OK)
		status(api.Invalid, api.In, api.Beaten, api.Invalid)
		o.announce(3, prefix(2560, 8), 4, api.OK)
		status(api.In, api.Invalid, api.Invalid, api.Beaten)
		o.remove(0, rule, api.OK)
		o.states(api.Invalid, api.Invalid, api.In, 0, 0, 0, 0)
		o.add(0, rule, 10, api.OK)
		status(api.In, api.Invalid, api.Invalid, api.Beaten)
	}
}

// TestAllFourHaveIt: all but the first are Beaten, be it In or Held; and they take no room.
func TestAllFourHaveIt(t *testing.T) {
	o := permissive(t, 2, 1)
	for peer := range 4 {
		o.add(peer, raw(t, "01 08 0a"), 10+peer, api.OK)
		o.add(peer, raw(t, "01 08 0b"), 10+peer, api.OK)
	}
	o.states(api.In, api.Beaten, api.Beaten, api.Beaten, api.In, api.Beaten, api.Beaten, api.Beaten)
	o.add(3, raw(t, "01 08 09"), 1, api.OK)
	o.states(api.In, api.In, api.Beaten, api.Beaten, api.Beaten, api.Held, api.Beaten, api.Beaten, api.Beaten)
	o.add(3, raw(t, "01 08 08 05 80 c0"), 1, api.OK) // two cubes, more than Budget
	o.states(api.Held, api.Held, api.Held, api.Beaten, api.Beaten, api.Beaten, api.Held, api.Beaten, api.Beaten, api.Beaten)
}

// cubes: by how many cubes a rule of the destinations 00001010 has, one that has so many.
var cubes = []struct {
	count int
	rule  string
}{
	{0, "01 08 0a 04 80 00"}, {1, "01 08 0a 05 81 80"}, {2, "01 08 0a 05 80 c0"}, {3, "01 08 0a 05 80 e0"}, {16, "01 08 0a 04 86 00"},
	{64, "01 08 0a 05 81 02"}, {128, "01 08 0a 05 81 01"}, {256, "01 08 0a 03 86 00 05 81 04"}, {1024, "01 08 0a 03 86 00 05 81 01"},
}

func TestBudget(t *testing.T) {
	for _, c := range cubes {
		for _, budget := range []int{1, 2, 3, 15, 16, 17, 63, 64} {
			o := permissive(t, 128, budget)
			o.addAll(c.rule, "01 00")
			if c.count <= budget {
				o.states(api.In, api.In)
			} else {
				o.states(api.Held, api.Held)
			}
		}
	}
}

func TestCapacityOfOne(t *testing.T) {
	for _, c := range cubes[:6] {
		for _, capacity := range []int{1, 2, 3, 4, 15, 16, 17, 63, 64, 65, 128} {
			o := permissive(t, capacity, 64)
			o.addAll(c.rule)
			if c.count <= capacity {
				o.states(api.In)
			} else {
				o.states(api.Held)
			}
		}
	}
}

// TestCapacityOfSeveral: 64 + 16 + 3 + 1 cubes, and room for so many, or one fewer or more.
func TestCapacityOfSeveral(t *testing.T) {
	for capacity := 1; capacity <= 128; capacity++ {
		o := permissive(t, capacity, 64)
		o.addAll("01 10 0a 00 05 81 02", "01 10 0a 01 04 86 00", "01 10 0a 02 05 80 e0", "01 10 0a 03")
		want := []int{api.Held, api.Held, api.Held, api.Held}
		for i, sum := range []int{64, 80, 83, 84} {
			if sum <= capacity {
				want[i] = api.In
			}
		}
		o.states(want...)
	}
}

func TestCapacityToTheLast(t *testing.T) {
	o := permissive(t, 128, 64)
	o.addAll("01 10 0a 00 05 81 02", "01 10 0a 01 05 81 02")
	o.states(api.In, api.In)
	o.addAll("01 10 0a 00 05 81 02", "01 10 0a 01 05 81 02", "01 10 0a 02 04 80 00") // no cubes: there is room for none
	o.states(api.In, api.In, api.In)
	o.add(0, raw(t, "01 10 0a 03"), 7, api.OK)
	o.states(api.In, api.In, api.In, api.Held)
	o.add(0, raw(t, "01 10 0a 04 04 80 00"), 7, api.OK) // none either, but behind one that is Held
	o.states(api.In, api.In, api.In, api.Held, api.Held)
	o.remove(0, raw(t, "01 10 0a 00 05 81 02"), api.OK)
	o.states(api.In, api.In, api.In, api.In)
}

// TestBehindHeld: Invalid and Beaten ones stay that, all others are Held, small as they may be.
func TestBehindHeld(t *testing.T) {
	o := permissive(t, 3, 3)
	o.addAll("01 10 0a 00 05 80 c0", "01 10 0a 01 05 80 c0", "01 10 0a 02", "01 10 0a 03 04 80 00")
	o.states(api.In, api.Held, api.Held, api.Held)
	o.add(2, raw(t, "01 10 0a 02"), 8, api.OK)
	o.add(2, raw(t, "02 00"), 8, api.OK)
	o.states(api.In, api.Held, api.Held, api.Beaten, api.Held, api.Invalid)
	o.remove(0, raw(t, "01 10 0a 01 05 80 c0"), api.OK)
	o.states(api.In, api.In, api.Beaten, api.In, api.Invalid)
}

// TestNoRoomIsTaken: neither by a rule that does not hold, nor by one that is Beaten, nor do they hold up those behind, however many cubes they have.
func TestNoRoomIsTaken(t *testing.T) {
	o := caller{t, open(t, api.Config{Capacity: 1, Budget: 1, Net: [4]int{1, 2, 2, 2}})}
	o.announce(1, prefix(2560, 8), 5, api.OK)
	o.add(0, raw(t, "01 10 0a 00 05 81 01"), 7, api.OK)
	o.add(0, raw(t, "01 10 0a 01"), 7, api.OK)
	o.add(3, raw(t, "01 10 0a 02"), 7, api.OK)
	o.states(api.Invalid, api.Invalid, api.In)
	o.add(2, raw(t, "01 10 0a 02"), 7, api.OK)
	o.add(0, raw(t, "01 10 0a 02"), 7, api.OK)
	o.states(api.Invalid, api.Invalid, api.Invalid, api.In, api.Beaten)
	o.add(1, raw(t, "01 10 0a 03 04 80 00"), 7, api.OK)
	o.states(api.Invalid, api.Invalid, api.Invalid, api.In, api.Beaten, api.In)
}

// TestHeldComesIn: when there is room again, by a rule that goes, or does not hold any more, or another action.
func TestHeldComesIn(t *testing.T) {
	o := permissive(t, 2, 2)
	o.addAll("01 10 0a 00", "01 10 0b 00 05 80 c0", "01 10 0c 00")
	o.states(api.In, api.Held, api.Held)
	o.add(0, raw(t, "01 10 0a 00"), 9, api.OK)
	o.states(api.In, api.Held, api.Held)
	o.remove(0, raw(t, "01 10 0a 00"), api.OK)
	o.states(api.In, api.Held)
	o.remove(0, raw(t, "01 10 0b 00 05 80 c0"), api.OK)
	o.states(api.In)
	o.withdraw(0, prefix(0, 0), api.OK)
	o.states(api.Invalid)
}
