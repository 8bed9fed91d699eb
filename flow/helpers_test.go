package flow_test

import (
	"encoding/hex"
	"math/rand"
	"regexp"
	"strings"
	"testing"

	"sluice/api"
	"sluice/flow"
)

// raw: bytes written in hexadecimal.
func raw(t *testing.T, s string) string {
	t.Helper()
	b, err := hex.DecodeString(strings.ReplaceAll(s, " ", ""))
	if err != nil {
		t.Fatal(err)
	}
	return string(b)
}

func prefix(kind, bits, length int) api.Part {
	return api.Part{Type: kind, Prefix: api.Prefix{Bits: bits, Len: length}}
}

func terms(kind int, l ...api.Term) api.Part { return api.Part{Type: kind, Terms: l} }

func rule(l ...api.Part) api.Rule { return api.Rule{Parts: l} }

// times: a part of n times the same term.
func times(kind, n int, term api.Term) api.Part {
	p := api.Part{Type: kind}
	for range n {
		p.Terms = append(p.Terms, term)
	}
	return p
}

func samePart(a, b api.Part) bool {
	if a.Type != b.Type || a.Prefix != b.Prefix || len(a.Terms) != len(b.Terms) {
		return false
	}
	for i := range a.Terms {
		if a.Terms[i] != b.Terms[i] {
			return false
		}
	}
	return true
}

func sameRule(a, b api.Rule) bool {
	if len(a.Parts) != len(b.Parts) {
		return false
	}
	for i := range a.Parts {
		if !samePart(a.Parts[i], b.Parts[i]) {
			return false
		}
	}
	return true
}

// copyRule: the same rule in lists of its own, without spare room.
func copyRule(r api.Rule) api.Rule {
	c := api.Rule{Parts: make([]api.Part, len(r.Parts))}
	copy(c.Parts, r.Parts)
	for i, p := range c.Parts {
		c.Parts[i].Terms = make([]api.Term, len(p.Terms))
		copy(c.Parts[i].Terms, p.Terms)
	}
	return c
}

// pairs: a rule of the language beside the parts that it is read as.
type pair struct {
	bytes string
	rule  api.Rule
}

func pairs(t *testing.T) []pair {
	six := api.Term{Op: 1, Value: 6}
	return []pair{
		// Examples 1 and 2 of the document.
		{raw(t, "01 08 0a 03 81 06"), rule(prefix(1, 2560, 8), terms(3, six))},
		{raw(t, "04 03 50 c5 52"), rule(terms(4, api.Term{Op: 3, Value: 80}, api.Term{And: true, Op: 5, Value: 82}))},
		{raw(t, "04 86 00"), rule(terms(4, api.Term{Op: 6}))},
		{raw(t, "04 80 00"), rule(terms(4, api.Term{}))},
		{raw(t, "04 87 00"), rule(terms(4, api.Term{Op: 7}))},
		// The edges of lengths.
		{raw(t, "01 00"), rule(prefix(1, 0, 0))},
		{raw(t, "01 01 80"), rule(prefix(1, 0x8000, 1))},
		{raw(t, "01 01 00"), rule(prefix(1, 0, 1))},
		{raw(t, "01 07 fe"), rule(prefix(1, 0xfe00, 7))},
		{raw(t, "01 08 ff"), rule(prefix(1, 0xff00, 8))},
		{raw(t, "01 09 ff 80"), rule(prefix(1, 0xff80, 9))},
		{raw(t, "01 09 00 00"), rule(prefix(1, 0, 9))},
		{raw(t, "02 0f 12 34"), rule(prefix(2, 0x1234, 15))},
		{raw(t, "02 10 12 35"), rule(prefix(2, 0x1235, 16))},
		{raw(t, "01 00 02 00"), rule(prefix(1, 0, 0), prefix(2, 0, 0))},
		// The edges of terms.
		{raw(t, "03 90 ff fe"), rule(terms(3, api.Term{Wide: true, Value: 0xfffe}))},
		{raw(t, "03 91 00 06"), rule(terms(3, api.Term{Wide: true, Op: 1, Value: 6}))},
		{raw(t, "03 01 06 81 06"), rule(times(3, 2, six))},
		{raw(t, "04 17 12 34 d2 56 78"), rule(terms(4, api.Term{Wide: true, Op: 7, Value: 0x1234}, api.Term{And: true, Wide: true, Op: 2, Value: 0x5678}))},
		{raw(t, "03 01 06 01 06 01 06 01 06 01 06 01 06 01 06 81 06"), rule(times(3, 8, six))},
		{raw(t, "05 80 00"), rule(terms(5, api.Term{}))},
		{raw(t, "05 82 c0"), rule(terms(5, api.Term{Op: 2, Value: 192}))},
		{raw(t, "05 00 ff 43 02 01 80 c2 04"), rule(terms(5, api.Term{Value: 255}, api.Term{And: true, Op: 3, Value: 2}, api.Term{Op: 1, Value: 128}, api.Term{And: true, Op: 2, Value: 4}))},
		{raw(t, "05 01 06 01 06 01 06 01 06 01 06 01 06 01 06 81 06"), rule(times(5, 8, six))},
		// All parts.
		{raw(t, "01 09 0a 80 02 08 0b 03 01 06 81 11 04 91 1f 90 05 81 80"), rule(prefix(1, 0x0a80, 9), prefix(2, 0x0b00, 8), terms(3, six, api.Term{Op: 1, Value: 17}), terms(4, api.Term{Wide: true, Op: 1, Value: 8080}), terms(5, api.Term{Op: 1, Value: 128}))},
	}
}

// language is what a rule is, said in another way than the program says it: a pattern over the bytes in hexadecimal.
var language = regexp.MustCompile("^" +
	prefixPattern("01") + "?" + prefixPattern("02") + "?" +
	numbersPattern("03") + "?" + numbersPattern("04") + "?" + flagsPattern + "?$")

func prefixPattern(kind string) string {
	// By how many of its bits lie within the length: what a hexadecimal digit may be.
	digit := []string{"0", "[08]", "[048c]", "[02468ace]", "[0-9a-f]"}
	var lengths []string
	for n := 0; n <= 16; n++ {
		s := hex.EncodeToString([]byte{byte(n)})
		for i := 0; i < (n+7)/8*2; i++ {
			s += digit[min(4, max(0, n-4*i))]
		}
		lengths = append(lengths, s)
	}
	return "(?:" + kind + "(?:" + strings.Join(lengths, "|") + "))"
}

func numbersPattern(kind string) string {
	return "(?:" + kind + "(?:(?:8[0-7]..|9[0-7]....)|(?:0[0-7]..|1[0-7]....)(?:[04][0-7]..|[15][0-7]....){0,6}(?:[8c][0-7]..|[9d][0-7]....)))"
}

const flagsPattern = "(?:05(?:8[0-3]..|0[0-3]..(?:[04][0-3]..){0,6}[8c][0-3]..))"

func inLanguage(s string) bool {
	return s != "" && language.MatchString(hex.EncodeToString([]byte(s)))
}

// bytesAsTold: the bytes of parts, written without any look at whether they are a rule: what is too great is cut.
func bytesAsTold(r api.Rule) string {
	var b []byte
	for _, p := range r.Parts {
		b = append(b, byte(p.Type))
		if p.Type == api.Dst || p.Type == api.Src {
			b = append(b, byte(p.Prefix.Len))
			if p.Prefix.Len > 0 {
				b = append(b, byte(p.Prefix.Bits>>8))
			}
			if p.Prefix.Len > 8 {
				b = append(b, byte(p.Prefix.Bits))
			}
			continue
		}
		for i, term := range p.Terms {
			marks := byte(term.Op)
			if term.And {
				marks |= 0x40
			}
			if i == len(p.Terms)-1 {
				marks |= 0x80
			}
			if term.Wide {
				b = append(b, marks|0x10, byte(term.Value>>8), byte(term.Value))
			} else {
				b = append(b, marks, byte(term.Value))
			}
		}
	}
	return string(b)
}

// wantNoRule: P1 and P3: the error, and nothing beside it.
func wantNoRule(t *testing.T, s string) {
	t.Helper()
	if r, e := flow.Decode(s); e != api.ErrForm || len(r.Parts) != 0 {
		t.Errorf("P3: Decode(% x) = %+v, %d, want no parts, %d", s, r, e, api.ErrForm)
	}
}

func wantRule(t *testing.T, s string, want api.Rule) {
	t.Helper()
	if r, e := flow.Decode(s); e != api.OK || !sameRule(r, want) {
		t.Errorf("P3: Decode(% x) = %+v, %d, want %+v", s, r, e, want)
	}
}

// wantParts: P4: a rule that is written as these bytes.
func wantParts(t *testing.T, r api.Rule, want string) {
	t.Helper()
	if s, e := flow.Encode(r); e != api.OK || s != want {
		t.Errorf("P4: Encode(%+v) = % x, %d, want % x", r, s, e, want)
	}
}

// wantNoParts: P1 and P4: the error, and nothing beside it.
func wantNoParts(t *testing.T, r api.Rule) {
	t.Helper()
	if s, e := flow.Encode(r); e != api.ErrRule || s != "" {
		t.Errorf("P4: Encode(%+v) = % x, %d, want no bytes, %d", r, s, e, api.ErrRule)
	}
}

// noRules: bytes that are no rule: the document's examples, and rules with a byte too many or too few.
func noRules(t *testing.T) []string {
	l := []string{}
	for _, s := range []string{
		"", "06", "01", "01 11 00 00 00", "01 08", "01 04 0f", "03 01 06", "03 c1 06", "03 a1 06", "03 91 06",
		"03 81 06 00", "03 81 06 01 00", "05 91 00 02", "04 84", "05 84 00", "01 00 01 00", "02 00 01 00", "00",
		"03 01 06 01 06 01 06 01 06 01 06 01 06 01 06 01 06 81 06",
	} {
		l = append(l, raw(t, s))
	}
	for _, c := range pairs(t) {
		l = append(l, c.bytes+"\x00", c.bytes+c.bytes, "\x00"+c.bytes)
	}
	return l
}

// anyRule: a rule with small numbers, so that two of them often speak of the same.
func anyRule(random *rand.Rand) api.Rule {
	for {
		var r api.Rule
		for kind := 1; kind <= 5; kind++ {
			if random.Intn(5) >= 2 {
				continue
			}
			if kind <= 2 {
				length := []int{0, 1, 2, 3, 16}[random.Intn(5)]
				r.Parts = append(r.Parts, prefix(kind, random.Intn(4)<<14>>(16-length)<<(16-length), length))
				continue
			}
			p := api.Part{Type: kind}
			for i := range 1 + random.Intn(random.Intn(8)+1) {
				term := api.Term{And: i > 0 && random.Intn(2) == 0, Op: random.Intn(4), Value: random.Intn(6)}
				if kind < 5 {
					term.Op, term.Wide = random.Intn(8), random.Intn(6) == 0
				}
				p.Terms = append(p.Terms, term)
			}
			r.Parts = append(r.Parts, p)
		}
		if len(r.Parts) > 0 {
			return r
		}
	}
}
