package gate_test

import (
	"math/rand"
	"testing"

	"sluice/api"
)

// Many calls in any order, right and wrong ones, on several gates at once: after each the answer, Status, Table and Lookup are those of the second telling (P1, P2, P9 to P14), and the writes lead from table to table (P15, see answered).

// walker is a gate beside its second telling.
type walker struct {
	caller
	told
	random *rand.Rand
	rules  []string
}

func walkers(t *testing.T, seed int64, configs []api.Config, rules []string) []walker {
	random := rand.New(rand.NewSource(seed))
	var l []walker
	for _, c := range configs {
		l = append(l, walker{caller: caller{t, open(t, c)}, told: newTold(c), random: random, rules: rules})
	}
	return l
}

func pick[T any](random *rand.Rand, l []T) T { return l[random.Intn(len(l))] }

func (w walker) anyPeer() int {
	if w.random.Intn(60) == 0 {
		return pick(w.random, noPeers)
	}
	return w.random.Intn(4)
}

// walkPrefixes: prefixes that cover one another, and some beside them.
var walkPrefixes = []api.Prefix{
	prefix(0, 0), prefix(0, 1), prefix(0x8000, 1), prefix(0x0800, 5), prefix(0x0a00, 8), prefix(0x0b00, 8), prefix(0x0a00, 9), prefix(0x0a80, 9),
	prefix(0x0a00, 15), prefix(0x0a00, 16), prefix(0x0a01, 16), prefix(0x0a80, 16), prefix(0x0b00, 16), prefix(0xffff, 16),
}

func (w walker) anyPrefix() api.Prefix {
	if w.random.Intn(60) == 0 {
		return pick(w.random, noPrefixes)
	}
	return pick(w.random, walkPrefixes)
}

// anyPath: small ones, so that they are often equal; for actions too.
func (w walker) anyPath() int {
	switch w.random.Intn(30) {
	case 0:
		return pick(w.random, noPaths)
	case 1:
		return 255
	}
	return 1 + w.random.Intn(4)
}

func (w walker) anyRule() string {
	if w.random.Intn(60) == 0 {
		return pick(w.random, noRules(w.t))
	}
	return pick(w.random, w.rules)
}

// anyHeader: one to an address next to which the rules' prefixes begin and end.
func (w walker) anyHeader() api.Header {
	p := pick(w.random, walkPrefixes)
	return api.Header{
		Dst: p.Bits + w.random.Intn(2)&(1<<(16-p.Len)-1), Src: w.random.Intn(65536), Proto: w.random.Intn(2) * 6,
		Port: 79 + w.random.Intn(5), Flags: w.random.Intn(256), Later: w.random.Intn(4) == 0,
	}
}

// step: rules and routes come more often than they go, so that there are many.
func (w walker) step() {
	w.t.Helper()
	peer := w.anyPeer()
	switch n := w.random.Intn(100); {
	case n < 35:
		p, path := w.anyPrefix(), w.anyPath()
		w.caller.announce(peer, p, path, w.told.announce(peer, p, path))
	case n < 55:
		p := w.anyPrefix()
		w.caller.withdraw(peer, p, w.told.withdraw(peer, p))
	case n < 83:
		rule, action := w.anyRule(), w.anyPath()
		w.caller.add(peer, rule, action, w.told.add(peer, rule, action))
	case n < 99:
		rule := w.anyRule()
		w.caller.remove(peer, rule, w.told.remove(peer, rule))
	default:
		w.caller.reset(peer, w.told.reset(peer))
	}
	status := w.told.status()
	w.caller.status(status...)
	w.caller.table(toldTable(status)...)
	h := w.anyHeader()
	w.caller.lookup(h, toldLookup(status, h))
}

func walk(l []walker, steps int) {
	for range steps {
		w := pick(l[0].random, l)
		w.step()
		if w.t.Failed() {
			w.t.FailNow()
		}
	}
}

func walkRules(t *testing.T) []string {
	var l []string
	for _, s := range []string{
		"01 00", "01 01 00", "01 05 08", "01 08 0a", "01 08 0b", "01 09 0a 80", "01 0f 0a 00", "01 10 0a 00", "01 10 0a 01", "01 10 ff ff",
		"02 08 0a", "03 81 06", "04 80 00", // these name no destination
		"01 08 0a 04 03 50 c5 52",          // 2 cubes
		"01 08 0a 04 03 50 c5 52 05 81 80", // 2
		"01 10 0a 01 05 80 e0",             // 3
		"01 08 0a 04 86 00",                // 16
		"01 10 0a 00 04 80 00",             // none
		"01 00 03 80 00",                   // none
		"01 09 0a 00 05 81 02",             // 64
		"01 08 0a 03 86 00 05 81 04",       // 256
	} {
		l = append(l, raw(t, s))
	}
	return l
}

func TestWalks(t *testing.T) {
	for seed := range int64(8) {
		walk(walkers(t, seed, []api.Config{
			small,
			{Capacity: 1, Budget: 1, Net: [4]int{1, 1, 1, 1}},
			{Capacity: 20, Budget: 16, Net: [4]int{65535, 1, 65535, 1}},
			{Capacity: 128, Budget: 64, Net: [4]int{4, 3, 2, 1}},
		}, walkRules(t)), 800)
	}
}

// TestWalksOfOneNetwork: where nobody speaks for another's addresses, more rules hold, and many are Beaten or Held.
func TestWalksOfOneNetwork(t *testing.T) {
	for seed := range int64(8) {
		walk(walkers(t, 100+seed, []api.Config{sized(2, 2), sized(6, 2), sized(24, 16), sized(128, 64)}, walkRules(t)), 800)
	}
}

// TestWalksOfFewRules: so that the same rule is often that of several peers.
func TestWalksOfFewRules(t *testing.T) {
	rules := []string{raw(t, "01 08 0a"), raw(t, "01 10 0a 01"), raw(t, "01 10 0a 01 05 80 e0")}
	for seed := range int64(8) {
		walk(walkers(t, 200+seed, []api.Config{small, sized(4, 3), sized(5, 3)}, rules), 800)
	}
}

// TestWalksCoverTheStates: the walks above would tell little, if some state or error never came.
func TestWalksCoverTheStates(t *testing.T) {
	l := walkers(t, 1, []api.Config{small, sized(24, 16), sized(128, 64)}, walkRules(t))
	var states [4]int
	full := [2]int{}
	for range 2000 {
		walk(l, 1)
		for _, w := range l {
			for _, s := range w.told.status() {
				states[s.State]++
			}
			if len(w.told.routes) == 24 {
				full[0]++
			}
			if len(w.told.rules) == 24 {
				full[1]++
			}
		}
	}
	t.Log(states, full)
	for state, n := range states {
		if n < 1000 {
			t.Errorf("state %d came %d times", state, n)
		}
	}
	if full[0] < 20 || full[1] < 20 {
		t.Errorf("24 routes stood %d times, 24 rules %d times", full[0], full[1])
	}
}
