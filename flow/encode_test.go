package flow_test

import (
	"math"
	"math/rand"
	"testing"

	"sluice/api"
	"sluice/flow"
)

func TestEncodeTellsTheBytes(t *testing.T) {
	for _, c := range pairs(t) {
		wantParts(t, c.rule, c.bytes)
	}
}

func TestEncodeNoParts(t *testing.T) {
	wantNoParts(t, api.Rule{})
	wantNoParts(t, api.Rule{Parts: []api.Part{}})
	wantNoParts(t, rule(api.Part{}))
}

func TestEncodeLengths(t *testing.T) {
	for _, kind := range []int{api.Dst, api.Src} {
		head := string([]byte{byte(kind)})
		wantParts(t, rule(prefix(kind, 0, 0)), head+"\x00")
		wantParts(t, rule(prefix(kind, 0x8000, 1)), head+"\x01\x80")
		wantParts(t, rule(prefix(kind, 0xff00, 8)), head+"\x08\xff")
		wantParts(t, rule(prefix(kind, 0xff80, 9)), head+"\x09\xff\x80")
		wantParts(t, rule(prefix(kind, 0xffff, 16)), head+"\x10\xff\xff")
		for _, length := range []int{17, 18, 255, 256, 264, 1 << 32, math.MaxInt, -1, -8, math.MinInt} {
			wantNoParts(t, rule(prefix(kind, 0, length)))
		}
	}
}

func TestEncodeBitsBehindTheLength(t *testing.T) {
	for _, kind := range []int{api.Dst, api.Src} {
		for length := range 17 {
			for bit := range 63 {
				p := prefix(kind, 1<<bit, length)
				if bit <= 15 && bit >= 16-length {
					wantParts(t, rule(p), bytesAsTold(rule(p)))
				} else {
					wantNoParts(t, rule(p))
				}
			}
			for _, bits := range []int{-1, -65536, math.MinInt, math.MaxInt} {
				wantNoParts(t, rule(prefix(kind, bits, length)))
			}
		}
	}
}

func TestEncodeHowManyTerms(t *testing.T) {
	for _, kind := range []int{api.Proto, api.Port, api.Flags} {
		for n := range 20 {
			p := times(kind, n, api.Term{Op: 1, Value: 6})
			if n >= 1 && n <= 8 {
				wantParts(t, rule(p), bytesAsTold(rule(p)))
			} else {
				wantNoParts(t, rule(p))
			}
		}
		wantNoParts(t, rule(times(kind, 100000, api.Term{Op: 1})))
	}
}

func TestEncodeMarksOfTerms(t *testing.T) {
	for _, kind := range []int{api.Proto, api.Port} {
		wantNoParts(t, rule(terms(kind, api.Term{And: true})))
		wantNoParts(t, rule(terms(kind, api.Term{And: true}, api.Term{And: true})))
		wantNoParts(t, rule(terms(kind, api.Term{Op: 8})))
		wantNoParts(t, rule(terms(kind, api.Term{}, api.Term{Op: 8})))
		wantNoParts(t, rule(terms(kind, api.Term{Value: 256})))
		wantNoParts(t, rule(terms(kind, api.Term{Wide: true, Value: 65536})))
	}
	wantNoParts(t, rule(terms(api.Flags, api.Term{And: true})))
	wantNoParts(t, rule(terms(api.Flags, api.Term{Op: 4})))
	wantNoParts(t, rule(terms(api.Flags, api.Term{Wide: true})))
	wantNoParts(t, rule(terms(api.Flags, api.Term{}, api.Term{Wide: true})))
	wantNoParts(t, rule(terms(api.Flags, api.Term{Value: 256})))
}

func TestEncodeOrderOfParts(t *testing.T) {
	dst, src := prefix(api.Dst, 0x0a00, 8), prefix(api.Src, 0x0b00, 8)
	proto, port, flags := times(api.Proto, 1, api.Term{}), times(api.Port, 1, api.Term{}), times(api.Flags, 1, api.Term{})
	all := []api.Part{dst, src, proto, port, flags}
	wantParts(t, rule(all...), raw(t, "01 08 0a 02 08 0b 03 80 00 04 80 00 05 80 00"))
	for i := range all {
		for k := range all {
			if r := rule(all[i], all[k]); i < k {
				wantParts(t, r, bytesAsTold(r))
			} else {
				wantNoParts(t, r)
			}
		}
		wantNoParts(t, rule(append(append([]api.Part{}, all...), all[i])...))
	}
}

func TestEncodePrefixOrTermsInTheWrongPart(t *testing.T) {
	one := []api.Term{{Op: 1}}
	for _, kind := range []int{api.Dst, api.Src} {
		wantNoParts(t, rule(api.Part{Type: kind, Terms: one}))
		wantNoParts(t, rule(api.Part{Type: kind, Prefix: api.Prefix{Bits: 0x0a00, Len: 8}, Terms: one}))
		// An empty list of terms is no terms.
		wantParts(t, rule(api.Part{Type: kind, Terms: []api.Term{}}), string([]byte{byte(kind), 0}))
	}
	for _, kind := range []int{api.Proto, api.Port, api.Flags} {
		wantNoParts(t, rule(api.Part{Type: kind, Prefix: api.Prefix{Len: 1}, Terms: one}))
		wantNoParts(t, rule(api.Part{Type: kind, Prefix: api.Prefix{Bits: 0x8000}, Terms: one}))
		wantNoParts(t, rule(api.Part{Type: kind, Prefix: api.Prefix{Bits: 0x0a00, Len: 8}}))
	}
	for _, kind := range []int{0, 6, -1, 256, 257, 259, 1 << 40, math.MaxInt, math.MinInt} {
		wantNoParts(t, rule(api.Part{Type: kind}))
		wantNoParts(t, rule(api.Part{Type: kind, Terms: one}))
		wantNoParts(t, rule(api.Part{Type: kind, Prefix: api.Prefix{Bits: 0x0a00, Len: 8}}))
	}
}

// checkRule: Decode answers these parts for some bytes just if it does so for the ones that they would be written as.
func checkRule(t *testing.T, r api.Rule) {
	t.Helper()
	s := bytesAsTold(r)
	back, e := flow.Decode(s)
	if e == api.OK && sameRule(back, r) {
		wantParts(t, r, s)
	} else {
		wantNoParts(t, r)
	}
}

var numbers = []int{math.MinInt, -65536, -256, -1, 0, 1, 2, 3, 4, 5, 6, 7, 8, 9, 15, 16, 17, 64, 128, 255, 256, 257, 4096, 32768, 65280, 65535, 65536, 1 << 32, math.MaxInt}

func TestEncodeRulesWithOneNumberChanged(t *testing.T) {
	for _, c := range pairs(t) {
		for i := range c.rule.Parts {
			for _, n := range numbers {
				r := copyRule(c.rule)
				r.Parts[i].Type = n
				checkRule(t, r)
				r = copyRule(c.rule)
				r.Parts[i].Prefix.Bits = n
				checkRule(t, r)
				r = copyRule(c.rule)
				r.Parts[i].Prefix.Len = n
				checkRule(t, r)
				for k := range c.rule.Parts[i].Terms {
					r = copyRule(c.rule)
					r.Parts[i].Terms[k].Op = n
					checkRule(t, r)
					r = copyRule(c.rule)
					r.Parts[i].Terms[k].Value = n
					checkRule(t, r)
					r.Parts[i].Terms[k].And = !r.Parts[i].Terms[k].And
					checkRule(t, r)
					r.Parts[i].Terms[k].Wide = !r.Parts[i].Terms[k].Wide
					checkRule(t, r)
				}
			}
		}
	}
}

func TestEncodeAnyParts(t *testing.T) {
	random := rand.New(rand.NewSource(1))
	number := func(often int) int {
		if random.Intn(8) > 0 {
			return random.Intn(often + 1)
		}
		return numbers[random.Intn(len(numbers))]
	}
	for range 50000 {
		var r api.Rule
		for kind := 1; kind <= 5; kind++ {
			if random.Intn(2) == 0 {
				continue
			}
			p := api.Part{Type: kind}
			if random.Intn(10) == 0 {
				p.Type = number(6)
			}
			if (kind <= 2) != (random.Intn(20) == 0) {
				p.Prefix = api.Prefix{Bits: number(3) << 14, Len: number(16)}
			}
			if (kind > 2) != (random.Intn(20) == 0) {
				for i := range random.Intn(4) {
					p.Terms = append(p.Terms, api.Term{And: i > 0 && random.Intn(2) == 0, Wide: kind < 5 && random.Intn(2) == 0, Op: number(3), Value: number(255)})
				}
			}
			r.Parts = append(r.Parts, p)
		}
		checkRule(t, r)
	}
}
