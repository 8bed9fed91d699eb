package flow_test

import (
	"encoding/hex"
	"fmt"
	"math/rand"
	"strings"
	"testing"

	"sluice/api"
	"sluice/flow"
)

// wantOrder: P6, told the same the other way round.
func wantOrder(t *testing.T, a, b string, want int) {
	t.Helper()
	if c, e := flow.Compare(a, b); e != api.OK || c != want {
		t.Errorf("P6: Compare(% x, % x) = %d, %d, want %d", a, b, c, e, want)
	}
	if c, e := flow.Compare(b, a); e != api.OK || c != -want {
		t.Errorf("P6: Compare(% x, % x) = %d, %d, want %d", b, a, c, e, -want)
	}
}

// wantNoOrder: P1 and P6: the error, and nothing beside it.
func wantNoOrder(t *testing.T, a, b string) {
	t.Helper()
	if c, e := flow.Compare(a, b); e != api.ErrForm || c != 0 {
		t.Errorf("P6: Compare(% x, % x) = %d, %d, want 0, %d", a, b, c, e, api.ErrForm)
	}
}

// place says the order a second time: as a text, of which the lesser goes first. A tilde is greater than all else that stands there: it ends prefixes, so that those that begin with the same bits and go on are lesser, and it ends the rule.
func place(r api.Rule) string {
	s := ""
	for _, p := range r.Parts {
		if p.Type == api.Dst || p.Type == api.Src {
			s += fmt.Sprint(p.Type) + fmt.Sprintf("%016b", p.Prefix.Bits)[:p.Prefix.Len] + "~"
		} else {
			s += fmt.Sprint(p.Type) + hex.EncodeToString([]byte(bytesAsTold(rule(p))))
		}
	}
	return s + "~"
}

func wantPlaces(t *testing.T, a, b api.Rule) {
	t.Helper()
	wantOrder(t, bytesAsTold(a), bytesAsTold(b), strings.Compare(place(a), place(b)))
}

func TestCompareExamples(t *testing.T) {
	for _, c := range []struct {
		a, b string
		want int
	}{
		{"01 08 0a", "01 10 0a 01", 1}, {"01 08 0a", "01 08 0b", -1}, {"01 08 0a", "02 08 0a", -1},
		{"01 08 0a", "01 08 0a 03 81 06", 1}, {"03 81 06", "03 81 07", -1},
	} {
		wantOrder(t, raw(t, c.a), raw(t, c.b), c.want)
	}
}

// TestCompareByHand: rules in their order, each with the reason why it goes ahead of the next.
func TestCompareByHand(t *testing.T) {
	order := []string{
		"01 10 0a 01 03 81 06",                // the next has no part there
		"01 10 0a 01",                         // longer, and covered by the next
		"01 0f 0a 00",                         // longer, and covered by the next, whose Bits are the same
		"01 08 0a 02 08 0c",                   // the lower type, though the next has more parts
		"01 08 0a 03 81 06 04 81 50 05 81 80", // the next has no part there
		"01 08 0a 03 81 06 04 81 50",          // the lower type
		"01 08 0a 03 81 06 05 81 80",          // the next has no part there
		"01 08 0a 03 81 06",                   // the lower type
		"01 08 0a 04 81 06",                   // the next has no part there
		"01 08 0a",                            // the lower Bits
		"01 10 0b 00",                         // longer, and covered by the next, whose Bits are the same
		"01 08 0b",                            // longer, and covered by the next, whose Bits are lower
		"01 07 0a",                            // the lower Bits, though the next is longer
		"01 10 80 00",                         // the lower Bits, though the next is shorter
		"01 02 c0",                            // longer, and covered by the next
		"01 01 80",                            // longer, and covered by the next
		"01 00 02 10 00 00",                   // longer, and covered by the next
		"01 00 02 00 03 81 06",                // the next has no part there
		"01 00 02 00",                         // the lower type
		"01 00 05 81 80",                      // the next has no part there
		"01 00",                               // the lower type
		"02 10 ff ff",                         // longer, and covered by the next
		"02 00",                               // the lower type
		"03 00 06 81 06",                      // the first term's marks
		"03 01 05 81 09",                      // the first term's value
		"03 01 06 81 07",                      // the second term's marks
		"03 01 06 91 00 06",                   // the second term's marks
		"03 01 06 c1 06",                      // the first term's marks
		"03 11 00 05 81 06",                   // the low byte of the first term's value
		"03 11 00 06 81 06",                   // the high byte of the first term's value
		"03 11 01 05 81 06",                   // the first term's marks
		"03 81 06 04 81 50",                   // the next has no part there
		"03 81 06",                            // the lower value
		"03 81 80",                            // the lower value, of bytes below and above 80
		"03 81 ff",                            // the lower marks
		"03 87 00",                            // the lower marks
		"03 91 00 06",                         // the lower type
		"04 01 50 01 50 01 50 81 50",          // the last term alone
		"04 01 50 01 50 01 50 81 51",          // the first term's marks
		"04 81 50 05 80 00",                   // the next has no part there
		"04 81 50",                            // the lower type
		"05 01 01 81 02",                      // the marks
		"05 80 ff",                            // the marks
		"05 81 00",                            // the value
		"05 81 01",
	}
	for i, a := range order {
		for _, b := range order[:i] {
			wantOrder(t, raw(t, a), raw(t, b), 1)
		}
		wantOrder(t, raw(t, a), raw(t, a), 0)
	}
}

func TestCompareSameBytes(t *testing.T) {
	for _, c := range pairs(t) {
		wantOrder(t, c.bytes, c.bytes, 0)
		wantOrder(t, c.bytes, strings.Clone(c.bytes), 0)
	}
	for _, a := range pairs(t) {
		for _, b := range pairs(t) {
			wantPlaces(t, a.rule, b.rule)
			if a.bytes == b.bytes {
				continue
			}
			if c, _ := flow.Compare(a.bytes, b.bytes); c != -1 && c != 1 {
				t.Errorf("P6: Compare(% x, % x) = %d of different bytes", a.bytes, b.bytes, c)
			}
		}
	}
}

// TestCompareSayTheSameInOtherBytes: rules of the same meaning are still different ones.
func TestCompareSayTheSameInOtherBytes(t *testing.T) {
	wantOrder(t, raw(t, "03 81 06"), raw(t, "03 91 00 06"), -1)
	wantOrder(t, raw(t, "03 01 06 81 06"), raw(t, "03 81 06"), -1)
	wantOrder(t, raw(t, "01 00"), raw(t, "01 00 02 00"), 1)
	wantOrder(t, raw(t, "01 00"), raw(t, "02 00"), -1)
	wantOrder(t, raw(t, "04 80 00"), raw(t, "04 80 01"), -1)
}

func TestComparePrefixes(t *testing.T) {
	var l []api.Prefix
	for length := range 17 {
		for _, bits := range []int{0, 0x0a00, 0x0a01, 0x0aff, 0x0b00, 0x7fff, 0x8000, 0xfffe, 0xffff} {
			l = append(l, api.Prefix{Bits: bits >> (16 - length) << (16 - length), Len: length})
		}
	}
	for _, a := range l {
		for _, b := range l {
			for kind := 1; kind <= 2; kind++ {
				x, y := prefix(kind, a.Bits, a.Len), prefix(kind, b.Bits, b.Len)
				wantPlaces(t, rule(x), rule(y))
				// What stands behind does not count, unless the prefixes are the same.
				more := times(3, 1, api.Term{Op: 1})
				wantPlaces(t, rule(x), rule(y, more))
				wantPlaces(t, rule(x, times(3, 2, api.Term{})), rule(y, more))
			}
			// The source counts, if the destination is the same.
			wantPlaces(t, rule(prefix(1, 0x0a00, 8), prefix(2, a.Bits, a.Len)), rule(prefix(1, 0x0a00, 8), prefix(2, b.Bits, b.Len)))
		}
	}
}

// TestCompareTypes: all ways to have parts or not, each part the same in all of them.
func TestCompareTypes(t *testing.T) {
	all := []api.Part{prefix(1, 0x0a00, 8), prefix(2, 0x0b00, 8), times(3, 1, api.Term{Op: 1}), times(4, 2, api.Term{Op: 1}), times(5, 1, api.Term{Op: 1})}
	var rules []api.Rule
	for ways := 1; ways < 32; ways++ {
		var r api.Rule
		for i, p := range all {
			if ways>>i&1 == 1 {
				r.Parts = append(r.Parts, p)
			}
		}
		rules = append(rules, r)
	}
	for _, a := range rules {
		for _, b := range rules {
			wantPlaces(t, a, b)
		}
	}
}

// TestCompareOneByteOfTerms: the same parts but for one byte, at every place, the later ones too.
func TestCompareOneByteOfTerms(t *testing.T) {
	for _, kind := range []int{3, 4, 5} {
		for n := 1; n <= 8; n++ {
			a := rule(times(kind, n, api.Term{Op: 1, Value: 127}))
			for i := range n {
				b := copyRule(a)
				for value := range 256 {
					b.Parts[0].Terms[i].Value = value
					wantPlaces(t, a, b)
				}
				b = copyRule(a)
				for op := range 4 {
					b.Parts[0].Terms[i].Op = op
					b.Parts[0].Terms[i].And = i > 0
					wantPlaces(t, a, b)
					wantPlaces(t, rule(prefix(1, 0, 0), a.Parts[0]), rule(prefix(1, 0, 0), b.Parts[0]))
				}
			}
		}
	}
}

func TestCompareNoRules(t *testing.T) {
	wrong := noRules(t)
	for _, a := range wrong {
		for _, c := range pairs(t) {
			wantNoOrder(t, a, c.bytes)
			wantNoOrder(t, c.bytes, a)
		}
		for _, b := range wrong {
			wantNoOrder(t, a, b)
		}
	}
}

func TestCompareAnyRules(t *testing.T) {
	random := rand.New(rand.NewSource(4))
	for range 100000 {
		a, b := anyRule(random), anyRule(random)
		if random.Intn(2) == 0 {
			// Rules that begin the same, so that the later parts are looked at.
			n := min(len(a.Parts), len(b.Parts))
			for i := range random.Intn(n + 1) {
				if a.Parts[i].Type == b.Parts[i].Type {
					b.Parts[i] = a.Parts[i]
				}
			}
		}
		wantPlaces(t, a, b)
	}
}
