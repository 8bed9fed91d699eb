package flow_test

import (
	"math/rand"
	"strings"
	"testing"

	"sluice/api"
	"sluice/flow"
)

func TestDecodeTellsTheParts(t *testing.T) {
	for _, c := range pairs(t) {
		wantRule(t, c.bytes, c.rule)
	}
}

func TestDecodeNoRules(t *testing.T) {
	for _, s := range noRules(t) {
		wantNoRule(t, s)
	}
}

func TestDecodeLengthsAndTheirBytes(t *testing.T) {
	needs := func(length int) int { return (length + 7) / 8 }
	for _, kind := range []int{api.Dst, api.Src} {
		for length := range 256 {
			for count := range 40 {
				s := string([]byte{byte(kind), byte(length)}) + strings.Repeat("\x00", count)
				if length <= 16 && count == needs(length) {
					wantRule(t, s, rule(prefix(kind, 0, length)))
				} else {
					wantNoRule(t, s)
				}
			}
		}
	}
}

func TestDecodeBitsBehindTheLength(t *testing.T) {
	for _, kind := range []int{api.Dst, api.Src} {
		for length := 1; length <= 16; length++ {
			count := (length + 7) / 8
			for bit := range 8 * count {
				bits := 0x8000 >> bit
				s := string([]byte{byte(kind), byte(length), byte(bits >> 8), byte(bits)}[:2+count])
				if bit < length {
					wantRule(t, s, rule(prefix(kind, bits, length)))
				} else {
					wantNoRule(t, s)
				}
			}
		}
	}
}

// onlyTerm: what a lone term of these marks and this value is read as, by the words of the document.
func onlyTerm(kind, marks int, value string) (api.Term, bool) {
	term := api.Term{Wide: marks&0x10 != 0, Op: marks & 7}
	stand := 0x80 | 0x10 | 7
	if kind == api.Flags {
		stand = 0x80 | 3
	}
	for _, b := range []byte(value) {
		term.Value = term.Value<<8 | int(b)
	}
	width := 1
	if term.Wide {
		width = 2
	}
	return term, marks&0x80 != 0 && marks|stand == stand && len(value) == width
}

func TestDecodeMarksOfALoneTerm(t *testing.T) {
	for _, kind := range []int{api.Proto, api.Port, api.Flags} {
		for marks := range 256 {
			for _, value := range []string{"", "\x00", "\xfe", "\x00\x07", "\x12\x34", "\xff\xff", "\x01\x02\x03"} {
				s := string([]byte{byte(kind), byte(marks)}) + value
				if term, ok := onlyTerm(kind, marks, value); ok {
					wantRule(t, s, rule(terms(kind, term)))
				} else {
					wantNoRule(t, s)
				}
			}
		}
	}
}

func TestDecodeMarksOfTheSecondTerm(t *testing.T) {
	for _, kind := range []int{api.Proto, api.Port, api.Flags} {
		for marks := range 256 {
			s := string([]byte{byte(kind), 1, 6, byte(marks), 7})
			// The second term is as a lone one, but that And may stand in it.
			if term, ok := onlyTerm(kind, marks&^0x40, "\x07"); ok {
				term.And = marks&0x40 != 0
				wantRule(t, s, rule(terms(kind, api.Term{Op: 1, Value: 6}, term)))
			} else {
				wantNoRule(t, s)
			}
		}
	}
}

func TestDecodeHowManyTerms(t *testing.T) {
	for _, kind := range []int{api.Proto, api.Port, api.Flags} {
		wantNoRule(t, string([]byte{byte(kind)}))
		for n := 1; n <= 20; n++ {
			s := string([]byte{byte(kind)}) + strings.Repeat("\x01\x06", n-1) + "\x81\x06"
			if n <= 8 {
				wantRule(t, s, rule(times(kind, n, api.Term{Op: 1, Value: 6})))
			} else {
				wantNoRule(t, s)
			}
			wantNoRule(t, string([]byte{byte(kind)})+strings.Repeat("\x01\x06", n))
		}
	}
}

func TestDecodeOrderOfParts(t *testing.T) {
	written := []string{"\x00\x81\x06", "\x01\x08\x0a", "\x02\x08\x0b", "\x03\x81\x06", "\x04\x81\x50", "\x05\x81\x80", "\x06\x81\x06"}
	read := []api.Part{{}, prefix(1, 0x0a00, 8), prefix(2, 0x0b00, 8), terms(3, api.Term{Op: 1, Value: 6}), terms(4, api.Term{Op: 1, Value: 80}), terms(5, api.Term{Op: 1, Value: 128}), {}}
	var try func(s string, r api.Rule, before int, rising bool, left int)
	try = func(s string, r api.Rule, before int, rising bool, left int) {
		if rising && len(r.Parts) > 0 {
			wantRule(t, s, r)
		} else {
			wantNoRule(t, s)
		}
		if left == 0 {
			return
		}
		for kind := range written {
			next := copyRule(r)
			next.Parts = append(next.Parts, read[kind])
			try(s+written[kind], next, kind, rising && kind > before && kind <= 5, left-1)
		}
	}
	try("", api.Rule{}, 0, true, 4)
	all := written[1] + written[2] + written[3] + written[4] + written[5]
	wantRule(t, all, rule(read[1:6]...))
	for kind := range written {
		wantNoRule(t, all+written[kind])
		wantNoRule(t, written[kind]+all)
	}
}

func TestDecodeBytesMissing(t *testing.T) {
	for _, c := range pairs(t) {
		// A beginning is a rule just if it ends where a part does.
		ends := map[int]int{}
		for n := 1; n <= len(c.rule.Parts); n++ {
			ends[len(bytesAsTold(rule(c.rule.Parts[:n]...)))] = n
		}
		for n := range c.bytes {
			if parts, ok := ends[n]; ok {
				wantRule(t, c.bytes[:n], rule(c.rule.Parts[:parts]...))
			} else {
				wantNoRule(t, c.bytes[:n])
			}
		}
	}
}

func TestDecodeBytesLeftOver(t *testing.T) {
	for _, c := range pairs(t) {
		for b := range 256 {
			wantNoRule(t, c.bytes+string([]byte{byte(b)}))
		}
		wantNoRule(t, c.bytes+c.bytes)
		wantNoRule(t, c.bytes+strings.Repeat("\x00", 100000))
	}
	wantNoRule(t, strings.Repeat("\x01\x00", 100000))
	wantNoRule(t, "\x03"+strings.Repeat("\x01\x06", 100000)+"\x81\x06")
}

// checkString: Decode takes a string just if the pattern does, and what it tells is just what was written.
func checkString(t *testing.T, s string) {
	t.Helper()
	if !inLanguage(s) {
		wantNoRule(t, s)
		return
	}
	r, e := flow.Decode(s)
	if e != api.OK || bytesAsTold(r) != s {
		t.Errorf("P3: Decode(% x) = %+v, %d", s, r, e)
	}
	wantParts(t, r, s)
}

func TestDecodeAllShortStrings(t *testing.T) {
	checkString(t, "")
	for a := range 256 {
		checkString(t, string([]byte{byte(a)}))
		for b := range 256 {
			checkString(t, string([]byte{byte(a), byte(b)}))
		}
	}
	for kind := range 7 {
		for a := range 256 {
			for b := 0; b < 256; b += 5 {
				checkString(t, string([]byte{byte(kind), byte(a), byte(b)}))
			}
		}
	}
}

func TestDecodeRulesWithOneByteChanged(t *testing.T) {
	for _, c := range pairs(t) {
		for i := range c.bytes {
			checkString(t, c.bytes[:i]+c.bytes[i+1:])
			for b := range 256 {
				x := string([]byte{byte(b)})
				checkString(t, c.bytes[:i]+x+c.bytes[i+1:])
				checkString(t, c.bytes[:i]+x+c.bytes[i:])
			}
		}
	}
}

func TestDecodeAnyStrings(t *testing.T) {
	// Mostly bytes that mean something, so that many of the strings come far.
	likely := "\x00\x01\x02\x03\x04\x05\x06\x08\x09\x10\x11\x41\x80\x81\x91\xc0\xc1\xd1\xff"
	random := rand.New(rand.NewSource(1))
	for range 50000 {
		b := make([]byte, random.Intn(24))
		for i := range b {
			b[i] = likely[random.Intn(len(likely))]
			if random.Intn(8) == 0 {
				b[i] = byte(random.Intn(256))
			}
		}
		checkString(t, string(b))
	}
}
