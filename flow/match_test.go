package flow_test

import (
	"fmt"
	"math"
	"math/rand"
	"slices"
	"strings"
	"testing"

	"sluice/api"
	"sluice/flow"
)

func wantMatch(t *testing.T, s string, h api.Header, want bool) {
	t.Helper()
	if m, e := flow.Match(s, h); e != api.OK || m != want {
		t.Errorf("P5: Match(% x, %+v) = %v, %d, want %v", s, h, m, e, want)
	}
}

// wantNoMatch: P1 and P5: the error, and nothing beside it.
func wantNoMatch(t *testing.T, s string, h api.Header, want api.Errno) {
	t.Helper()
	if m, e := flow.Match(s, h); e != want || m {
		t.Errorf("P5: Match(% x, %+v) = %v, %d, want false, %d", s, h, m, e, want)
	}
}

// matchesAsTold says a second time what a rule matches: prefixes by the text of their bits, groups as lists of their own.
func matchesAsTold(r api.Rule, h api.Header) bool {
	for _, p := range r.Parts {
		switch p.Type {
		case api.Dst, api.Src:
			address := fmt.Sprintf("%016b", []int{h.Dst, h.Src}[p.Type-1])
			if !strings.HasPrefix(address, fmt.Sprintf("%016b", p.Prefix.Bits)[:p.Prefix.Len]) {
				return false
			}
		case api.Port, api.Flags:
			if h.Later {
				return false
			}
			fallthrough
		default:
			number := []int{h.Proto, h.Port, h.Flags}[p.Type-3]
			if !someHoldsAsTold(groupsAsTold(p.Terms), p.Type, number) {
				return false
			}
		}
	}
	return true
}

func someHoldsAsTold(groups [][]api.Term, kind, number int) bool {
	fails := func(term api.Term) bool { return !holdsAsTold(term, kind, number) }
	holds := func(group []api.Term) bool { return !slices.ContainsFunc(group, fails) }
	return slices.ContainsFunc(groups, holds)
}

func groupsAsTold(l []api.Term) [][]api.Term {
	var groups [][]api.Term
	for _, term := range l {
		if !term.And {
			groups = append(groups, nil)
		}
		groups[len(groups)-1] = append(groups[len(groups)-1], term)
	}
	return groups
}

// holdsAsTold: of numbers a row of what Op says of a lower, the same and a greater one; of flags the bits one by one.
func holdsAsTold(term api.Term, kind, number int) bool {
	if kind != api.Flags {
		row := []string{"---", "-=-", "-->", "-=>", "<--", "<=-", "<->", "<=>"}[term.Op]
		sign := 1
		if number < term.Value {
			sign = 0
		} else if number > term.Value {
			sign = 2
		}
		return row[sign] != '-'
	}
	asked, found := 0, 0
	for bit := range 8 {
		if term.Value>>bit%2 == 1 {
			asked++
			if number>>bit%2 == 1 {
				found++
			}
		}
	}
	return []bool{found > 0, found == asked, found == 0, found < asked}[term.Op]
}

func TestMatchExamples(t *testing.T) {
	first, second := raw(t, "01 08 0a 03 81 06"), raw(t, "04 03 50 c5 52")
	wantMatch(t, first, api.Header{Dst: 2561, Proto: 6}, true)
	wantMatch(t, first, api.Header{Dst: 2561, Proto: 17}, false)
	wantMatch(t, second, api.Header{Port: 81}, true)
	wantMatch(t, second, api.Header{Port: 81, Later: true}, false)
	for _, h := range headers {
		wantMatch(t, raw(t, "01 00"), h, true)
	}
}

var headers = []api.Header{
	{}, {Later: true},
	{Dst: 65535, Src: 65535, Proto: 255, Port: 65535, Flags: 255}, {Dst: 65535, Src: 65535, Proto: 255, Port: 65535, Flags: 255, Later: true},
	{Dst: 0x0a80, Src: 0x0b00, Proto: 17, Port: 8080, Flags: 128}, {Dst: 0x0a80, Src: 0x0b00, Proto: 17, Port: 8080, Flags: 128, Later: true},
	{Dst: 0x0b00, Src: 0x0a80, Proto: 6, Port: 80, Flags: 2}, {Dst: 0x1235, Src: 0x1235, Proto: 6, Port: 82, Flags: 4},
}

func TestMatchPrefixesOfAllLengths(t *testing.T) {
	for _, bits := range []int{0, 0xffff, 0x5a5a, 0xa5a5, 0x8000, 0x0001} {
		for length := range 17 {
			first := bits >> (16 - length) << (16 - length)
			last := first + 1<<(16-length) - 1
			dst, src := bytesAsTold(rule(prefix(1, first, length))), bytesAsTold(rule(prefix(2, first, length)))
			numbers := []int{first, last, (first + last) / 2, first - 1, last + 1, 0, 65535}
			for bit := range 16 {
				numbers = append(numbers, first^1<<bit)
			}
			for _, n := range numbers {
				if n < 0 || n > 65535 {
					continue
				}
				// The other address is the opposite, so that a look at the wrong one shows.
				other := 65535 - n
				in := first <= n && n <= last
				wantMatch(t, dst, api.Header{Dst: n, Src: other}, in)
				wantMatch(t, dst, api.Header{Dst: n, Src: other, Later: true}, in)
				wantMatch(t, src, api.Header{Src: n, Dst: other}, in)
				wantMatch(t, src, api.Header{Src: n, Dst: other, Later: true}, in)
			}
		}
	}
}

func TestMatchTermsOverNumbers(t *testing.T) {
	values := []int{0, 1, 2, 79, 80, 81, 254, 255, 256, 257, 32767, 32768, 65534, 65535}
	for op := range 8 {
		for _, value := range values {
			for _, wide := range []bool{false, true} {
				if value > 255 && !wide {
					continue
				}
				term := api.Term{Wide: wide, Op: op, Value: value}
				proto, port := bytesAsTold(rule(terms(3, term))), bytesAsTold(rule(terms(4, term)))
				for _, n := range values {
					want := holdsAsTold(term, api.Port, n)
					wantMatch(t, port, api.Header{Port: n, Proto: 7}, want)
					wantMatch(t, port, api.Header{Port: n, Proto: 7, Later: true}, false)
					if n <= 255 {
						wantMatch(t, proto, api.Header{Proto: n, Port: 65535 - n}, want)
						wantMatch(t, proto, api.Header{Proto: n, Port: 65535 - n, Later: true}, want)
					}
				}
			}
		}
	}
}

func TestMatchTermsWithoutAnyOfTheThree(t *testing.T) {
	for value := range 256 {
		never := api.Term{Value: value}
		for n := range 256 {
			wantMatch(t, bytesAsTold(rule(terms(3, never))), api.Header{Proto: n}, false)
			wantMatch(t, bytesAsTold(rule(terms(4, never))), api.Header{Port: n}, false)
		}
	}
	// It spoils its own group, and no other.
	wantMatch(t, raw(t, "03 00 06 81 06"), api.Header{Proto: 6}, true)
	wantMatch(t, raw(t, "03 01 06 80 06"), api.Header{Proto: 6}, true)
	wantMatch(t, raw(t, "03 01 06 c0 06"), api.Header{Proto: 6}, false)
	wantMatch(t, raw(t, "03 00 06 c1 06"), api.Header{Proto: 6}, false)
}

func TestMatchTermsOverFlags(t *testing.T) {
	for op := range 4 {
		for value := range 256 {
			term := api.Term{Op: op, Value: value}
			s := bytesAsTold(rule(terms(5, term)))
			for n := range 256 {
				wantMatch(t, s, api.Header{Flags: n}, holdsAsTold(term, api.Flags, n))
			}
			wantMatch(t, s, api.Header{Flags: value, Later: true}, false)
			wantMatch(t, s, api.Header{Flags: 255 - value, Later: true}, false)
		}
	}
}

// TestMatchGroups: terms that hold and terms that don't, in all ways to group up to six of them.
func TestMatchGroups(t *testing.T) {
	yes := map[int]api.Term{3: {Op: 1, Value: 6}, 4: {Op: 6, Value: 7}, 5: {Op: 0, Value: 6}}
	no := map[int]api.Term{3: {Op: 6, Value: 6}, 4: {Op: 2, Value: 6}, 5: {Op: 3, Value: 6}}
	h := api.Header{Proto: 6, Port: 6, Flags: 6}
	for kind := 3; kind <= 5; kind++ {
		for n := 1; n <= 6; n++ {
			for ways := range 1 << (2 * n) {
				p := api.Part{Type: kind}
				for i := range n {
					term := no[kind]
					if ways>>(2*i)&1 == 1 {
						term = yes[kind]
					}
					term.And = i > 0 && ways>>(2*i+1)&1 == 1
					p.Terms = append(p.Terms, term)
				}
				wantMatch(t, bytesAsTold(rule(p)), h, matchesAsTold(rule(p), h))
			}
		}
	}
}

func TestMatchGroupsByHand(t *testing.T) {
	for _, c := range []struct {
		s    string
		port int
		want bool
	}{
		{"04 01 50 81 52", 80, true}, {"04 01 50 81 52", 81, false}, {"04 01 50 81 52", 82, true},
		{"04 01 50 c1 52", 80, false}, {"04 01 50 c1 52", 82, false}, {"04 01 50 c1 50", 80, true},
		// Below 5 and above 2; or 80.
		{"04 04 05 42 02 81 50", 2, false}, {"04 04 05 42 02 81 50", 3, true}, {"04 04 05 42 02 81 50", 5, false}, {"04 04 05 42 02 81 50", 80, true},
		// 80; or below 5 and above 2.
		{"04 01 50 04 05 c2 02", 80, true}, {"04 01 50 04 05 c2 02", 4, true}, {"04 01 50 04 05 c2 02", 2, false},
		// Eight terms in one group: all ports from 8 on but 10 to 15.
		{"04 03 08 46 0a 46 0b 46 0c 46 0d 46 0e 46 0f c7 00", 9, true}, {"04 03 08 46 0a 46 0b 46 0c 46 0d 46 0e 46 0f c7 00", 15, false}, {"04 03 08 46 0a 46 0b 46 0c 46 0d 46 0e 46 0f c7 00", 7, false}, {"04 03 08 46 0a 46 0b 46 0c 46 0d 46 0e 46 0f c7 00", 65535, true},
		// Eight groups of one.
		{"04 01 01 01 02 01 03 01 04 01 05 01 06 01 07 81 08", 1, true}, {"04 01 01 01 02 01 03 01 04 01 05 01 06 01 07 81 08", 8, true}, {"04 01 01 01 02 01 03 01 04 01 05 01 06 01 07 81 08", 9, false},
	} {
		wantMatch(t, raw(t, c.s), api.Header{Port: c.port}, c.want)
	}
}

// TestMatchAllPartsMust: one part that does not match is enough, whichever it is.
func TestMatchAllPartsMust(t *testing.T) {
	s := raw(t, "01 09 0a 80 02 08 0b 03 01 06 81 11 04 91 1f 90 05 81 80")
	good := api.Header{Dst: 0x0aff, Src: 0x0b12, Proto: 17, Port: 8080, Flags: 0x81}
	wantMatch(t, s, good, true)
	for i := range 6 {
		h := good
		switch i {
		case 0:
			h.Dst = 0x0a7f
		case 1:
			h.Src = 0x0a00
		case 2:
			h.Proto = 7
		case 3:
			h.Port = 144
		case 4:
			h.Flags = 0x7f
		case 5:
			h.Later = true
		}
		wantMatch(t, s, h, false)
	}
}

func TestMatchLaterFragments(t *testing.T) {
	for _, c := range []struct {
		s    string
		want bool
	}{
		{"01 00", true}, {"02 00", true}, {"03 87 00", true}, {"01 00 02 00 03 87 00", true},
		{"04 87 00", false}, {"05 81 00", false}, {"05 82 00", false}, {"05 80 00", false}, {"05 83 00", false},
		{"01 00 04 87 00", false}, {"01 00 05 81 00", false}, {"04 87 00 05 81 00", false},
	} {
		for _, port := range []int{0, 80, 65535} {
			for _, flags := range []int{0, 2, 255} {
				wantMatch(t, raw(t, c.s), api.Header{Port: port, Flags: flags, Later: true}, c.want)
			}
		}
	}
}

// wrongHeaders: one field is one below or one above its bits, or far from them; all others are their least or greatest.
func wrongHeaders() []api.Header {
	most := []int{65535, 65535, 255, 65535, 255}
	var l []api.Header
	for field := range most {
		for _, n := range []int{-1, most[field] + 1, -65536, 1 << 16, 1 << 31, 1 << 32, 1<<32 + 6, math.MinInt, math.MaxInt} {
			for all := range 2 {
				h := api.Header{Dst: most[0] * all, Src: most[1] * all, Proto: most[2] * all, Port: most[3] * all, Flags: most[4] * all}
				*[]*int{&h.Dst, &h.Src, &h.Proto, &h.Port, &h.Flags}[field] = n
				l = append(l, h)
				h.Later = true
				l = append(l, h)
			}
		}
	}
	return l
}

func TestMatchNoHeader(t *testing.T) {
	for _, h := range wrongHeaders() {
		// Whether the rule looks at the field or not, and whether it would match or not.
		for _, s := range []string{"01 00", "02 00", "03 87 00", "04 87 00", "05 81 00", "03 80 00", "01 10 12 34", "04 80 00", "05 80 00", "01 00 02 00 03 87 00 04 87 00 05 81 00"} {
			wantNoMatch(t, raw(t, s), h, api.ErrHeader)
		}
	}
}

func TestMatchFieldsAtTheirBits(t *testing.T) {
	for field := range 5 {
		for n, most := range []int{65535, 65535, 255, 65535, 255} {
			h := api.Header{}
			*[]*int{&h.Dst, &h.Src, &h.Proto, &h.Port, &h.Flags}[n] = most
			for _, later := range []bool{false, true} {
				h.Later = later
				s := []string{"01 00", "02 00", "03 87 00", "04 87 00", "05 81 00"}[field]
				wantMatch(t, raw(t, s), h, field < 3 || !later)
			}
		}
	}
}

func TestMatchNoRule(t *testing.T) {
	for _, s := range noRules(t) {
		for _, h := range headers {
			wantNoMatch(t, s, h, api.ErrForm)
		}
		// ErrForm is named ahead of ErrHeader.
		for _, h := range wrongHeaders() {
			wantNoMatch(t, s, h, api.ErrForm)
		}
	}
}

func TestMatchAnyRulesAndHeaders(t *testing.T) {
	random := rand.New(rand.NewSource(2))
	matched := 0
	for range 200000 {
		r := anyRule(random)
		// Small numbers and those that the rule speaks of, so that both answers come often.
		h := api.Header{Dst: random.Intn(4) << 14, Src: random.Intn(4) << 14, Proto: random.Intn(6), Port: random.Intn(6), Flags: random.Intn(8), Later: random.Intn(6) == 0}
		want := matchesAsTold(r, h)
		wantMatch(t, bytesAsTold(r), h, want)
		if want {
			matched++
		}
	}
	if matched < 20000 || matched > 180000 {
		t.Errorf("the rules and headers say little: %d of 200000 match", matched)
	}
}

func TestMatchAnyNumbers(t *testing.T) {
	random := rand.New(rand.NewSource(3))
	number := func(most int) int {
		if random.Intn(12) == 0 {
			return numbers[random.Intn(len(numbers))]
		}
		return random.Intn(most + 1)
	}
	for range 50000 {
		r := anyRule(random)
		h := api.Header{Dst: number(65535), Src: number(65535), Proto: number(255), Port: number(65535), Flags: number(255), Later: random.Intn(2) == 0}
		if uint(h.Dst) < 1<<16 && uint(h.Src) < 1<<16 && uint(h.Proto) < 1<<8 && uint(h.Port) < 1<<16 && uint(h.Flags) < 1<<8 {
			wantMatch(t, bytesAsTold(r), h, matchesAsTold(r, h))
		} else {
			wantNoMatch(t, bytesAsTold(r), h, api.ErrHeader)
		}
	}
}
