package gate_test

import (
	"fmt"
	"slices"
	"strings"
	"testing"

	"sluice/api"
)

// P13, and the document's examples 7 to 11 as far as Table goes.

func stars(n int) string { return strings.Repeat("*", n) }

// toDst: the bits of an entry that looks at the destination alone.
func toDst(bits string) string { return bits + stars(65-len(bits)) }

// onPort: those of one that looks at port and flags too; each may end in stars.
func onPort(dst, port, flags string) string {
	return dst + stars(40-len(dst)) + port + stars(16-len(port)) + flags + stars(8-len(flags)) + "0"
}

func TestTableOfExamples(t *testing.T) {
	o := caller{t, open(t, small)}
	one, two, more := raw(t, "01 10 0a 01"), raw(t, "01 08 0a 04 03 50 c5 52"), raw(t, "01 08 0a 04 03 50 c5 52 05 81 80")
	entry := api.Entry{Bits: toDst("0000101000000001"), Action: 7, Rule: one}
	o.table()
	o.add(0, one, 7, api.OK)
	o.table()
	o.announce(0, prefix(2560, 8), 5, api.OK)
	o.table(entry)
	o.announce(1, prefix(2560, 8), 4, api.OK)
	o.add(1, one, 9, api.OK)
	o.table(entry)
	o.announce(2, prefix(2560, 8), 3, api.OK)
	o.table()
	o.withdraw(2, prefix(2560, 8), api.OK)
	o.table(entry)
	o.announce(2, prefix(2560, 16), 9, api.OK)
	o.table(entry)
	o.announce(2, prefix(2561, 16), 9, api.OK)
	o.table()
	o.reset(2, api.OK)
	o.add(0, two, 9, api.OK)
	o.table(entry,
		api.Entry{Bits: onPort("00001010", "000000000101000*", ""), Action: 9, Rule: two},
		api.Entry{Bits: onPort("00001010", "0000000001010010", ""), Action: 9, Rule: two})
	o.add(0, more, 8, api.OK)
	o.table(entry,
		api.Entry{Bits: onPort("00001010", "000000000101000*", "1"), Action: 8, Rule: more},
		api.Entry{Bits: onPort("00001010", "0000000001010010", "1"), Action: 8, Rule: more})
	o.remove(0, more, api.OK)
	o.remove(0, two, api.OK)
	o.add(0, raw(t, "01 08 0a 04 86 00"), 1, api.OK) // 16 cubes
	o.add(0, raw(t, "01 08 0a"), 2, api.OK)          // behind it
	o.table(entry)
}

// TestTableWithoutRules: routes alone are no entries.
func TestTableWithoutRules(t *testing.T) {
	o := caller{t, open(t, sized(128, 64))}
	o.table()
	for peer := range 4 {
		o.announce(peer, prefix(0, 0), 5, api.OK)
		o.table()
	}
	o.add(2, "\x01\x00", 7, api.OK)
	o.table(api.Entry{Bits: stars(65), Action: 7, Rule: "\x01\x00"})
	o.remove(2, "\x01\x00", api.OK)
	o.table()
}

// TestTableWithoutOneThatIsIn: rules of every other state.
func TestTableWithoutOneThatIsIn(t *testing.T) {
	o := permissive(t, 1, 1)
	o.add(0, raw(t, "02 08 0a"), 1, api.OK)
	o.states(api.Invalid)
	o.table()
	o.add(0, raw(t, "01 08 0a 05 80 c0"), 2, api.OK)
	o.add(1, raw(t, "01 08 0a 05 80 c0"), 3, api.OK)
	o.add(0, raw(t, "01 08 0b"), 4, api.OK)
	o.states(api.Held, api.Beaten, api.Held, api.Invalid)
	o.table()
	o.remove(0, raw(t, "01 08 0a 05 80 c0"), api.OK)
	o.states(api.Held, api.Held, api.Invalid)
	o.table()
	o.remove(1, raw(t, "01 08 0a 05 80 c0"), api.OK)
	o.table(api.Entry{Bits: toDst("00001011"), Action: 4, Rule: raw(t, "01 08 0b")})
}

// TestTableOfNoCubes: a rule that is In and has none is no entry, and those behind it are.
func TestTableOfNoCubes(t *testing.T) {
	o := permissive(t, 1, 1)
	none, behind := raw(t, "01 08 0a 04 80 00"), raw(t, "01 08 0b")
	o.add(0, none, 1, api.OK)
	o.states(api.In)
	o.table()
	o.add(0, behind, 2, api.OK)
	o.states(api.In, api.In)
	o.table(api.Entry{Bits: toDst("00001011"), Action: 2, Rule: behind})
	// The fields ahead of the one without blocks have more ways than there is room for.
	o.add(0, raw(t, "01 08 09 03 86 00 04 86 00 05 80 00"), 3, api.OK)
	o.states(api.In, api.In, api.In)
	o.table(api.Entry{Bits: toDst("00001011"), Action: 2, Rule: behind})
}

// TestTableOfSeveralCubes: in the order of Cubes, that of the flags changing fastest.
func TestTableOfSeveralCubes(t *testing.T) {
	o := permissive(t, 7, 6)
	ahead, rule := raw(t, "01 10 0a 01"), raw(t, "01 08 0a 02 04 50 03 03 01 c5 03 04 81 50 05 80 e0")
	o.add(3, rule, 255, api.OK)
	o.add(2, ahead, 1, api.OK)
	want := []api.Entry{{Bits: toDst("0000101000000001"), Action: 1, Rule: ahead}}
	for _, proto := range []string{"00000001", "0000001*"} {
		for _, flags := range []string{"001*****", "01******", "1*******"} {
			bits := "00001010********" + "0101************" + proto + "0000000001010000" + flags + "0"
			want = append(want, api.Entry{Bits: bits, Action: 255, Rule: rule})
		}
	}
	o.table(want...)
}

// TestTableOrder: that of Status, in whatever order they were added.
func TestTableOrder(t *testing.T) {
	rules := []string{"01 10 0a 01 03 81 06", "01 10 0a 01", "01 08 0a 05 80 c0", "01 08 0a", "01 08 0b", "01 01 80", "01 00"}
	bits := [][]string{
		{"0000101000000001" + stars(16) + "00000110" + stars(25)}, {toDst("0000101000000001")},
		{onPort("00001010", "", "01"), onPort("00001010", "", "1")}, {toDst("00001010")}, {toDst("00001011")}, {toDst("1")}, {toDst("")},
	}
	for stride := 1; stride < len(rules); stride++ {
		o := permissive(t, 8, 2)
		var want []api.Entry
		for i, s := range rules {
			k := i * stride % len(rules)
			o.add(k%4, raw(t, rules[k]), 10+k, api.OK)
			for _, b := range bits[i] {
				want = append(want, api.Entry{Bits: b, Action: 10 + i, Rule: raw(t, s)})
			}
		}
		o.table(want...)
	}
}

// TestTableBehindHeld: nothing behind a rule that is Held stands there, small as it may be; all ahead of it does.
func TestTableBehindHeld(t *testing.T) {
	o := permissive(t, 3, 3)
	o.addAll("01 10 0a 00 05 80 c0", "01 10 0a 01 05 80 c0", "01 10 0a 02", "01 10 0a 03 04 80 00")
	rule := raw(t, "01 10 0a 00 05 80 c0")
	ahead := []api.Entry{
		{Bits: onPort("0000101000000000", "", "01"), Action: 7, Rule: rule},
		{Bits: onPort("0000101000000000", "", "1"), Action: 7, Rule: rule},
	}
	o.table(ahead...)
	o.remove(0, raw(t, "01 10 0a 01 05 80 c0"), api.OK)
	o.table(slices.Concat(ahead, []api.Entry{{Bits: toDst("0000101000000010"), Action: 7, Rule: raw(t, "01 10 0a 02")}})...)
	// By its Budget, not for want of room.
	o.add(2, raw(t, "01 10 0a 01 05 81 20"), 9, api.OK)
	o.table(ahead...)
	o.add(1, raw(t, "01 10 00 00 05 81 20"), 9, api.OK)
	o.table()
}

// TestTableOfTheSameRule: of several peers, it stands there once, with the action of the one that is taken.
func TestTableOfTheSameRule(t *testing.T) {
	o := caller{t, open(t, api.Config{Capacity: 8, Budget: 2, Net: [4]int{1, 2, 2, 1}})}
	rule := raw(t, "01 08 0a")
	for peer := range 4 {
		o.add(peer, rule, 10+peer, api.OK)
	}
	entry := func(action int) api.Entry { return api.Entry{Bits: toDst("00001010"), Action: action, Rule: rule} }
	o.table()
	o.announce(2, prefix(2560, 8), 5, api.OK)
	o.table(entry(11))
	o.remove(1, rule, api.OK)
	o.table(entry(12))
	o.add(2, rule, 99, api.OK)
	o.table(entry(99))
	o.announce(3, prefix(2560, 8), 4, api.OK)
	o.table(entry(10))
	o.add(3, rule, 77, api.OK) // Beaten
	o.table(entry(10))
	o.remove(0, rule, api.OK)
	o.table(entry(77))
	o.reset(3, api.OK)
	o.table(entry(99))
}

// TestTableToTheLast: 128 entries of two rules; where there is room for fewer, those of one of them, or none.
func TestTableToTheLast(t *testing.T) {
	var want []api.Entry
	for _, dst := range []string{"0000101000000000", "0000101000000001"} {
		rule := string([]byte{1, 16, 10, dst[15] - '0', 5, 0x81, 2})
		for i := range 64 {
			want = append(want, api.Entry{Bits: onPort(dst, "", fmt.Sprintf("%06b1*", i)), Action: 7, Rule: rule})
		}
	}
	for _, capacity := range []int{63, 64, 65, 127, 128} {
		o := permissive(t, capacity, 64)
		o.addAll("01 10 0a 00 05 81 02", "01 10 0a 01 05 81 02")
		o.table(want[:capacity/64*64]...)
	}
}
