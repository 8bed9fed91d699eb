package gate_test

import (
	"fmt"
	"slices"
	"strconv"
	"strings"
	"testing"

	"sluice/api"
)

// P15, said a second time: what is wrong with the writes of a call, whatever their order.

// bitsOf: a header's bits.
func bitsOf(h api.Header) string {
	s := fmt.Sprintf("%016b%016b%08b%016b%08b", h.Dst, h.Src, h.Proto, h.Port, h.Flags)
	if h.Later {
		return s + "1"
	}
	return s + "0"
}

func fits(cube, bits string) bool {
	for i := range len(bits) {
		if cube[i] != '*' && cube[i] != bits[i] {
			return false
		}
	}
	return true
}

// lone: how many entries of a table do not stand in another.
func lone(table, other []api.Entry) int {
	n := 0
	for _, e := range table {
		if !slices.Contains(other, e) {
			n++
		}
	}
	return n
}

// numbersOf: of one field, out of each run of numbers that no cube of the entries tells apart the first. The field's characters stand from one place up to another.
func numbersOf(entries []api.Entry, from, to int) []int {
	l := []int{0}
	for _, e := range entries {
		text := e.Bits[from:to]
		low, _ := strconv.ParseInt(strings.ReplaceAll(text, "*", "0"), 2, 0)
		high, _ := strconv.ParseInt(strings.ReplaceAll(text, "*", "1"), 2, 0)
		l = append(l, int(low))
		if int(high)+1 < 1<<(to-from) {
			l = append(l, int(high)+1)
		}
	}
	slices.Sort(l)
	return slices.Compact(l)
}

// headersOf: a header for each way in which headers differ to the entries: they speak for all headers there are. Where these are more than so many, some of them, from all over.
func headersOf(entries []api.Entry, most int) []api.Header {
	dst, src, proto := numbersOf(entries, 0, 16), numbersOf(entries, 16, 32), numbersOf(entries, 32, 40)
	port, flags := numbersOf(entries, 40, 56), numbersOf(entries, 56, 64)
	total := len(dst) * len(src) * len(proto) * len(port) * len(flags) * 2
	stride := 1
	if total > most {
		stride = 7919
	}
	var l []api.Header
	for i := range min(total, most) {
		n := i * stride % total
		take := func(numbers []int) int {
			k := n % len(numbers)
			n /= len(numbers)
			return numbers[k]
		}
		l = append(l, api.Header{Later: n%2 == 1})
		n /= 2
		h := &l[i]
		h.Dst, h.Flags, h.Port, h.Proto, h.Src = take(dst), take(flags), take(port), take(proto), take(src)
	}
	return l
}

// look is one header that is looked up: which entries of a list fit it, and what becomes of it ahead of a call and behind it.
type look struct {
	bits          string
	fit           []bool
	ahead, behind int
}

// first: the action of the first entry of a table that fits. A table is places in the list of entries.
func (k look) first(entries []api.Entry, table []int) int {
	for _, i := range table {
		if k.fit[i] {
			return entries[i].Action
		}
	}
	return api.Permit
}

func looksOf(entries []api.Entry, before, after []int, most int) []look {
	var l []look
	for _, h := range headersOf(entries, most) {
		k := look{bits: bitsOf(h)}
		for _, e := range entries {
			k.fit = append(k.fit, fits(e.Bits, k.bits))
		}
		k.ahead, k.behind = k.first(entries, before), k.first(entries, after)
		l = append(l, k)
	}
	return l
}

func placesOf(entries, table []api.Entry) []int {
	var l []int
	for _, e := range table {
		l = append(l, slices.Index(entries, e))
	}
	return l
}

// written: the table behind one write, or what is wrong with that.
func written(entries []api.Entry, table []int, w api.Write) ([]int, string) {
	at := slices.Index(entries, w.Entry)
	switch {
	case w.Kind == api.Insert && w.Place >= 0 && w.Place <= len(table) && at >= 0:
		return slices.Insert(table, w.Place, at), ""
	case w.Kind == api.Delete && w.Place >= 0 && w.Place < len(table) && w.Entry == (api.Entry{}):
		return slices.Delete(table, w.Place, w.Place+1), ""
	}
	return nil, fmt.Sprintf("%+v is no write to a table of %d entries", w, len(table))
}

// faultOf tells what is wrong with writes that are to lead from one table to another, or nothing. It looks up so many headers between any two of them.
func faultOf(before, after []api.Entry, writes []api.Write, most int) string {
	if n := lone(before, after) + lone(after, before); len(writes) != n {
		return fmt.Sprintf("%d writes, want %d", len(writes), n)
	}
	if len(writes) == 0 {
		if !slices.Equal(before, after) {
			return "the entries are in another order"
		}
		return ""
	}
	entries := slices.Concat(before, after)
	table, want, fault := placesOf(entries, before), placesOf(entries, after), ""
	looks := looksOf(entries, table, want, most)
	for i, w := range writes {
		if table, fault = written(entries, table, w); fault != "" {
			return fault
		}
		if len(table) > 256 {
			return fmt.Sprintf("%d entries behind write %d", len(table), i)
		}
		for _, k := range looks {
			if n := k.first(entries, table); n != k.ahead && n != k.behind {
				return fmt.Sprintf("behind write %d %s is %d; it was %d and will be %d", i, k.bits, n, k.ahead, k.behind)
			}
		}
	}
	if !slices.Equal(table, want) {
		return fmt.Sprintf("they lead to %v of %+v", table, entries)
	}
	return ""
}

// TestFaultsAreSeen: the tests of P15 would tell little, if faultOf let wrong writes pass. The tables are a narrow entry and a wide one behind it, each with other actions.
func TestFaultsAreSeen(t *testing.T) {
	narrow, wide := "00001010"+strings.Repeat("*", 57), strings.Repeat("*", 65)
	before := []api.Entry{{Bits: narrow, Action: 1, Rule: "a"}, {Bits: wide, Action: 2, Rule: "b"}}
	after := []api.Entry{{Bits: narrow, Action: 3, Rule: "a"}, {Bits: wide, Action: 4, Rule: "b"}}
	in := func(place, i int) api.Write { return api.Write{Kind: api.Insert, Place: place, Entry: after[i]} }
	out := func(place int) api.Write { return api.Write{Kind: api.Delete, Place: place} }
	for _, good := range [][]api.Write{
		{in(0, 0), in(2, 1), out(3), out(1)},
		{in(1, 0), in(3, 1), out(2), out(0)},
		{in(1, 0), out(0), in(2, 1), out(1)},
		{in(2, 0), in(3, 1), out(1), out(0)},
	} {
		if s := faultOf(before, after, good, 100); s != "" {
			t.Errorf("%+v: %s", good, s)
		}
	}
	late := out(0)
	late.Entry = before[0]
	for _, bad := range [][]api.Write{
		nil,
		{in(0, 0), out(1), in(1, 1)},
		{in(0, 0), out(1), in(1, 1), out(2), in(0, 0), out(0)},
		{out(0), in(0, 0), out(1), in(1, 1)},   // a packet is nobody's between
		{out(1), out(0), in(0, 0), in(1, 1)},   // all of them are
		{in(0, 1), in(0, 0), out(3), out(2)},   // the wide one comes in ahead of the narrow one
		{in(2, 0), in(3, 1), out(0), out(0)},   // the old wide one says what becomes of the narrow one's
		{in(0, 0), in(1, 1), out(3), out(3)},   // there is no such place
		{in(3, 0), in(3, 1), out(1), out(0)},   // nor this
		{in(-1, 0), in(2, 1), out(3), out(1)},  // nor this
		{in(0, 0), in(2, 1), out(3), out(-1)},  // nor this
		{in(1, 0), in(3, 1), out(2), late},     // a Delete has no entry
		{in(1, 0), in(3, 1), out(2), {}},       // no kind
		{in(1, 0), in(3, 1), out(3), out(0)},   // the new one is taken out
		{in(1, 0), in(3, 0), out(2), out(0)},   // the same one twice
		{in(0, 0), in(2, 1), out(3), in(1, 0)}, // and the old one is not
	} {
		if s := faultOf(before, after, bad, 100); s == "" {
			t.Errorf("%+v: these are wrong", bad)
		}
	}
	if faultOf(before, before, nil, 100) != "" || faultOf(nil, nil, nil, 100) != "" {
		t.Error("nothing is to be done where nothing changes")
	}
	if faultOf(before, []api.Entry{before[1], before[0]}, nil, 100) == "" {
		t.Error("the order of entries changed")
	}
}
