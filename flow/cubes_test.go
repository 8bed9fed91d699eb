package flow_test

import (
	"fmt"
	"math/rand"
	"slices"
	"strings"
	"testing"

	"sluice/api"
	"sluice/flow"
)

// wantCubes: P7: these cubes, and as many of them as Count tells.
func wantCubes(t *testing.T, s string, want []string) {
	t.Helper()
	if n, e := flow.Count(s); e != api.OK || n != len(want) {
		t.Errorf("P7: Count(% x) = %d, %d, want %d", s, n, e, len(want))
	}
	if l, e := flow.Cubes(s); e != api.OK || !slices.Equal(l, want) {
		t.Errorf("P7: Cubes(% x) = %q, %d, want %q", s, l, e, want)
	}
}

// wantMany: P1 and P7: more cubes than are told: their count, and from Cubes the error and nothing beside it.
func wantMany(t *testing.T, s string, want int) {
	t.Helper()
	if n, e := flow.Count(s); e != api.OK || n != want {
		t.Errorf("P7: Count(% x) = %d, %d, want %d", s, n, e, want)
	}
	if l, e := flow.Cubes(s); e != api.ErrMany || len(l) != 0 {
		t.Errorf("P7: Cubes(% x) = %q, %d, want none, %d", s, l, e, api.ErrMany)
	}
}

// wantNoCubes: P1 and P7: bytes that are no rule: the error, and nothing beside it.
func wantNoCubes(t *testing.T, s string) {
	t.Helper()
	if n, e := flow.Count(s); e != api.ErrForm || n != 0 {
		t.Errorf("P7: Count(% x) = %d, %d, want 0, %d", s, n, e, api.ErrForm)
	}
	if l, e := flow.Cubes(s); e != api.ErrForm || len(l) != 0 {
		t.Errorf("P7: Cubes(% x) = %q, %d, want none, %d", s, l, e, api.ErrForm)
	}
}

func stars(n int) string { return strings.Repeat("*", n) }

// coverAsTold says a second time what the cover is, by its definition: whole[k] tells of each block with k fixed bits whether it lies in the set; those count that lie in no longer one.
func coverAsTold(p api.Part) []string {
	width := []int{8, 16, 8}[p.Type-3]
	whole := make([][]bool, width+1)
	groups := groupsAsTold(p.Terms)
	for number := range 1 << width {
		whole[width] = append(whole[width], someHoldsAsTold(groups, p.Type, number))
	}
	for k := width - 1; k >= 0; k-- {
		for i := range 1 << k {
			whole[k] = append(whole[k], whole[k+1][2*i] && whole[k+1][2*i+1])
		}
	}
	var l []string
	for k := range whole {
		for i, in := range whole[k] {
			if in && (k == 0 || !whole[k-1][i/2]) {
				l = append(l, fmt.Sprintf("%0*b", width, i<<(width-k))[:k]+stars(width-k))
			}
		}
	}
	// Their texts rise as their numbers do: two blocks that share no number differ in a digit ahead of all stars.
	slices.Sort(l)
	return l
}

func listsAsTold(r api.Rule) [][]string {
	lists := [][]string{{stars(16)}, {stars(16)}, {stars(8)}, {stars(16)}, {stars(8)}, {"*"}}
	for _, p := range r.Parts {
		if p.Type <= 2 {
			lists[p.Type-1] = []string{fmt.Sprintf("%016b", p.Prefix.Bits)[:p.Prefix.Len] + stars(16-p.Prefix.Len)}
			continue
		}
		lists[p.Type-1] = coverAsTold(p)
		if p.Type >= 4 {
			lists[5] = []string{"0"}
		}
	}
	return lists
}

// wantCubesAsTold: the cubes are counted through as a number is, of which the flags' block is the last digit.
func wantCubesAsTold(t *testing.T, r api.Rule) {
	t.Helper()
	lists := listsAsTold(r)
	count := 1
	for _, l := range lists {
		count *= len(l)
	}
	if count > 256 {
		wantMany(t, bytesAsTold(r), count)
		return
	}
	var want []string
	for i := range count {
		cube, rest := "", i
		for field := 5; field >= 0; field-- {
			n := len(lists[field])
			cube, rest = lists[field][rest%n]+cube, rest/n
		}
		want = append(want, cube)
	}
	wantCubes(t, bytesAsTold(r), want)
}

func fitsAsTold(cube string, h api.Header) bool {
	later := 0
	if h.Later {
		later = 1
	}
	bits := fmt.Sprintf("%016b%016b%08b%016b%08b%b", h.Dst, h.Src, h.Proto, h.Port, h.Flags, later)
	if len(bits) != 65 || len(cube) != 65 {
		return false
	}
	for i := range bits {
		if cube[i] != '*' && cube[i] != bits[i] {
			return false
		}
	}
	return true
}

// wantOneFits: the last sentence of P7.
func wantOneFits(t *testing.T, s string, cubes []string, h api.Header) {
	t.Helper()
	m, _ := flow.Match(s, h)
	n := 0
	for _, c := range cubes {
		if fitsAsTold(c, h) {
			n++
		}
	}
	if n > 1 || (n == 1) != m {
		t.Errorf("P7: % x, %+v: %d cubes fit, Match is %v", s, h, n, m)
	}
}

func TestCubesExamples(t *testing.T) {
	port := func(l ...string) []string {
		for i := range l {
			l[i] = stars(40) + l[i] + stars(8) + "0"
		}
		return l
	}
	wantCubes(t, raw(t, "04 03 50 c5 52"), port("000000000101000*", "0000000001010010"))
	var all []string
	for i := range 16 {
		all = append(all, strings.Repeat("0", 15-i)+"1"+stars(i))
	}
	wantCubes(t, raw(t, "04 86 00"), port(all...))
	wantCubes(t, raw(t, "04 80 00"), nil)
	wantCubes(t, raw(t, "04 87 00"), port(stars(16)))
	var flags []string
	for i := range 64 {
		flags = append(flags, stars(56)+fmt.Sprintf("%06b1*0", i))
	}
	wantCubes(t, raw(t, "05 81 02"), flags)
	wantCubes(t, raw(t, "05 81 80"), []string{stars(56) + "1" + stars(7) + "0"})
	wantCubes(t, raw(t, "05 82 c0"), []string{stars(56) + "00" + stars(6) + "0"})
}

func TestCubesPrefixesOfAllLengths(t *testing.T) {
	for _, bits := range []int{0, 0xffff, 0x5a5a, 0xa5a5, 0x8000, 0x0001} {
		for length := range 17 {
			first := bits >> (16 - length) << (16 - length)
			text := fmt.Sprintf("%016b", bits)[:length] + stars(16-length)
			wantCubes(t, bytesAsTold(rule(prefix(1, first, length))), []string{text + stars(49)})
			wantCubes(t, bytesAsTold(rule(prefix(2, first, length))), []string{stars(16) + text + stars(33)})
			both := rule(prefix(1, first, length), prefix(2, 0x8000, 16-length/2))
			wantCubesAsTold(t, both)
		}
	}
}

// TestCubesOrder: two blocks in each field that can have several: the flags change fastest, the protocol slowest.
func TestCubesOrder(t *testing.T) {
	var want []string
	for _, proto := range []string{"00000110", "00001000"} {
		for _, port := range []string{"000000000101000*", "0000000001010010"} {
			for _, flags := range []string{"01******", "1*******"} {
				want = append(want, "00001010"+stars(8)+"00001011000011"+stars(2)+proto+port+flags+"0")
			}
		}
	}
	wantCubes(t, raw(t, "01 08 0a 02 0e 0b 0c 03 01 06 81 08 04 03 50 c5 52 05 80 c0"), want)
	// The blocks rise, in whatever order the terms stand.
	wantCubes(t, raw(t, "01 08 0a 02 0e 0b 0c 03 01 08 81 06 04 01 52 01 51 81 50 05 01 80 81 40"), want)
}

// TestCubesParts: all ways to have parts or not, and what stands at the end for it.
func TestCubesParts(t *testing.T) {
	all := []api.Part{
		prefix(1, 0x0a00, 8), prefix(2, 0x0b01, 16), times(3, 1, api.Term{Op: 3, Value: 0xfe}),
		times(4, 1, api.Term{Op: 5, Value: 2}), times(5, 1, api.Term{Value: 0xe0}),
	}
	for ways := 1; ways < 32; ways++ {
		var r api.Rule
		count := 1
		for i, p := range all {
			if ways>>i&1 == 1 {
				r.Parts = append(r.Parts, p)
				count *= []int{1, 1, 1, 2, 3}[i]
			}
		}
		wantCubesAsTold(t, r)
		l, _ := flow.Cubes(bytesAsTold(r))
		if len(l) != count {
			t.Errorf("P7: %+v has %d cubes, want %d", r, len(l), count)
		}
		end := "*"
		if ways >= 8 {
			end = "0"
		}
		for _, c := range l {
			if len(c) != 65 || c[64:] != end {
				t.Errorf("P7: the cube %s of %+v does not end with %s", c, r, end)
			}
		}
	}
	// The end hangs on the part, not on what it says.
	wantCubes(t, raw(t, "04 87 00 05 81 00"), []string{stars(64) + "0"})
	wantCubes(t, raw(t, "05 82 00"), []string{stars(64) + "0"})
	wantCubes(t, raw(t, "01 00 02 00 03 87 00"), []string{stars(65)})
}

// TestCubesTermsOverNumbers: with values at the ends of the fields and beyond them.
func TestCubesTermsOverNumbers(t *testing.T) {
	for op := range 8 {
		for _, value := range []int{0, 1, 2, 6, 127, 128, 129, 254, 255, 256, 257, 32767, 32768, 65534, 65535} {
			for _, wide := range []bool{false, true} {
				if value > 255 && !wide {
					continue
				}
				term := api.Term{Wide: wide, Op: op, Value: value}
				wantCubesAsTold(t, rule(terms(3, term)))
				wantCubesAsTold(t, rule(terms(4, term)))
			}
		}
	}
}

func TestCubesTermsOverNumbersByHand(t *testing.T) {
	for _, c := range []struct {
		s    string
		want []string
	}{
		{"03 81 00", []string{"00000000"}}, {"03 81 ff", []string{"11111111"}}, {"03 84 00", nil}, {"03 82 ff", nil},
		{"03 84 01", []string{"00000000"}}, {"03 82 fe", []string{"11111111"}}, {"03 83 00", []string{stars(8)}}, {"03 85 ff", []string{stars(8)}},
		{"03 83 80", []string{"1*******"}}, {"03 84 80", []string{"0*******"}}, {"03 87 06", []string{stars(8)}}, {"03 80 06", nil},
		// A value that no protocol has, though two bytes hold it: all are below it.
		{"03 91 01 06", nil}, {"03 92 01 00", nil}, {"03 93 ff ff", nil}, {"03 94 01 00", []string{stars(8)}}, {"03 96 01 06", []string{stars(8)}},
		{"03 91 00 ff", []string{"11111111"}},
		// Below 3 or above 252; above 2 and below 253, but for 128.
		{"03 04 03 82 fc", []string{"0000000*", "00000010", "11111101", "1111111*"}},
		{"03 02 02 44 fd c6 80", []string{
			"00000011", "000001**", "00001***", "0001****", "001*****", "01******",
			"10000001", "1000001*", "100001**", "10001***", "1001****", "101*****", "110*****", "1110****", "11110***", "111110**", "11111100",
		}},
		// Groups that meet make one block, those that overlap too.
		{"03 04 50 83 50", []string{stars(8)}}, {"03 05 06 83 03", []string{stars(8)}}, {"03 01 06 81 07", []string{"0000011*"}},
		{"03 01 07 81 08", []string{"00000111", "00001000"}}, {"03 01 06 81 06", []string{"00000110"}},
		{"03 01 04 01 05 01 06 81 07", []string{"000001**"}}, {"03 01 07 01 06 01 05 01 04 01 03 01 02 01 01 81 00", []string{"00000***"}},
		{"03 01 06 c1 07", nil}, {"03 04 06 c2 06", nil}, {"03 04 06 c2 04", []string{"00000101"}},
	} {
		var want []string
		for _, block := range c.want {
			want = append(want, stars(32)+block+stars(25))
		}
		wantCubes(t, raw(t, c.s), want)
	}
}

func TestCubesTermsOverFlags(t *testing.T) {
	for op := range 4 {
		for value := range 256 {
			wantCubesAsTold(t, rule(terms(5, api.Term{Op: op, Value: value})))
		}
	}
}

func TestCubesTermsOverFlagsByHand(t *testing.T) {
	for _, c := range []struct {
		s    string
		want []string
	}{
		{"05 80 00", nil}, {"05 81 00", []string{stars(8)}}, {"05 82 00", []string{stars(8)}}, {"05 83 00", nil},
		{"05 81 ff", []string{"11111111"}}, {"05 82 ff", []string{"00000000"}},
		{"05 81 c0", []string{"11******"}}, {"05 80 c0", []string{"01******", "1*******"}}, {"05 83 c0", []string{"0*******", "10******"}},
		{"05 81 40", []string{"01******", "11******"}}, {"05 82 40", []string{"00******", "10******"}},
		// One flag and not the other, in one group; one flag or not the other, in two.
		{"05 01 80 c2 40", []string{"10******"}}, {"05 01 80 82 40", []string{"00******", "1*******"}}, {"05 01 80 82 80", []string{stars(8)}}, {"05 01 80 c2 80", nil},
		{"05 01 80 41 40 42 20 02 80 c3 60", []string{"00******", "010*****", "110*****"}},
	} {
		var want []string
		for _, block := range c.want {
			want = append(want, stars(56)+block+"0")
		}
		wantCubes(t, raw(t, c.s), want)
	}
}

// TestCubesGroups: two and three terms in all ways to group them, with values side by side and apart.
func TestCubesGroups(t *testing.T) {
	for _, kind := range []int{3, 5} {
		var l []api.Term
		for op := range 4 {
			for _, value := range []int{0, 3, 4, 128, 255} {
				if kind == 3 {
					l = append(l, api.Term{Op: 7 - op, Value: value})
				}
				l = append(l, api.Term{Op: op, Value: value})
			}
		}
		for i, a := range l {
			for k, b := range l {
				for ways := range 4 {
					b.And = ways&1 == 1
					wantCubesAsTold(t, rule(terms(kind, a, b)))
					c := l[(7*i+3*k)%len(l)]
					c.And = ways&2 == 2
					wantCubesAsTold(t, rule(terms(kind, a, b, c)))
				}
			}
		}
	}
}

// TestCubesAtMost: 256 cubes, in all ways to share them among the fields. 257 is a prime, and no field has so many blocks: the least count beyond is 258.
func TestCubesAtMost(t *testing.T) {
	for _, c := range []struct {
		s    string
		want int
	}{
		{"03 86 00 05 81 04", 256}, {"03 01 06 81 08 05 81 01", 256}, {"04 86 00 05 81 08", 256}, {"04 03 50 c5 52 05 81 01", 256},
		{"03 86 00 04 86 00 05 81 40", 256}, {"01 08 0a 02 10 0a 01 03 86 00 04 86 00 05 81 40", 256},
		{"03 84 3f 04 16 00 00 56 40 00 d6 80 00", 258}, {"03 86 00 04 86 00 05 80 e0", 384}, {"03 86 00 05 81 02", 512},
		{"04 86 00 05 81 01", 2048}, {"03 86 00 04 86 00 05 81 01", 16384}, {"01 00 03 86 00 04 86 00 05 81 01", 16384},
	} {
		if c.want > 256 {
			wantMany(t, raw(t, c.s), c.want)
		}
		r, _ := flow.Decode(raw(t, c.s))
		wantCubesAsTold(t, r)
		if n, _ := flow.Count(raw(t, c.s)); n != c.want {
			t.Errorf("P7: Count(%s) = %d, want %d", c.s, n, c.want)
		}
	}
}

// TestCubesManyBlocks: parts that cut their fields into many blocks.
func TestCubesManyBlocks(t *testing.T) {
	var proto, port []api.Term
	for i := range 8 {
		proto = append(proto, api.Term{And: i > 0, Op: 6, Value: 32 * i})
		port = append(port, api.Term{And: i > 0, Wide: true, Op: 6, Value: 8192 * i})
	}
	either := terms(5, api.Term{Op: 1, Value: 1}, api.Term{And: true, Op: 2, Value: 2}, api.Term{Op: 2, Value: 1}, api.Term{And: true, Op: 1, Value: 2})
	wantMany(t, bytesAsTold(rule(terms(3, proto...), terms(4, port...), either)), 40*104*128)
	wantMany(t, bytesAsTold(rule(prefix(1, 0, 0), terms(4, port...), either)), 104*128)
	wantCubesAsTold(t, rule(terms(3, proto...)))
	wantCubesAsTold(t, rule(terms(4, port...)))
	wantCubesAsTold(t, rule(either))
}

// TestCubesNone: one field without blocks is enough, however many the others have.
func TestCubesNone(t *testing.T) {
	for _, s := range []string{
		"03 80 00", "04 80 00", "05 80 00", "05 83 00", "01 10 0a 01 03 84 00", "03 92 01 00", "04 92 ff ff",
		"04 80 00 05 81 01", "03 86 00 04 86 00 05 80 00", "03 86 00 04 80 00 05 81 01", "03 80 00 04 86 00 05 81 01", "03 80 00 04 80 00 05 80 00",
	} {
		wantCubes(t, raw(t, s), nil)
	}
}

func TestCubesNoRule(t *testing.T) {
	for _, s := range noRules(t) {
		wantNoCubes(t, s)
	}
	// ErrForm is named ahead of ErrMany.
	for _, s := range []string{"03 86 00 05 81 02 00", "03 86 00 05 01 02", "03 86 00 05 81 02 05 81 02", "05 81 02 03 86 00", "03 86 00 04 86 00 05 91 00 01"} {
		wantNoCubes(t, raw(t, s))
	}
}

// TestCubesFitOnceOverAField: all numbers of the field that a part looks at.
func TestCubesFitOnceOverAField(t *testing.T) {
	for _, s := range []string{"03 86 06", "03 04 10 82 f0", "03 02 02 44 fd c6 80", "05 01 81 c2 02", "05 80 a5", "05 03 11 c0 0e", "03 05 40 c2 3f 05 81 10"} {
		l, _ := flow.Cubes(raw(t, s))
		for n := range 256 {
			for _, later := range []bool{false, true} {
				wantOneFits(t, raw(t, s), l, api.Header{Proto: n, Flags: 64, Later: later})
				wantOneFits(t, raw(t, s), l, api.Header{Proto: 64, Flags: n, Later: later})
			}
		}
	}
	for _, s := range []string{"04 03 50 c5 52", "04 02 05 46 46 c4 50", "04 12 0f ff d5 f0 01", "04 16 80 00 d6 7f ff"} {
		l, _ := flow.Cubes(raw(t, s))
		for n := 0; n < 65536; n += 1 + n>>8 {
			wantOneFits(t, raw(t, s), l, api.Header{Port: n})
			wantOneFits(t, raw(t, s), l, api.Header{Port: 65535 - n})
		}
		wantOneFits(t, raw(t, s), l, api.Header{Port: 81, Later: true})
	}
}

func TestCubesAnyRules(t *testing.T) {
	random := rand.New(rand.NewSource(5))
	told, many, fitted := 0, 0, 0
	for range 600 {
		r := anyRule(random)
		for _, p := range r.Parts {
			for i := range p.Terms {
				// Beside the small values those of the whole field, and those that lie near one another.
				if most := []int{255, 65535}[random.Intn(2)]; random.Intn(2) == 0 && (most == 255 || p.Type < 5) {
					p.Terms[i].Value = most >> random.Intn(8) & random.Intn(most+1)
					p.Terms[i].Wide = p.Terms[i].Wide || most > 255
				}
			}
		}
		wantCubesAsTold(t, r)
		s := bytesAsTold(r)
		l, e := flow.Cubes(s)
		if e == api.ErrMany {
			many++
			continue
		}
		told += len(l)
		for range 40 {
			h := api.Header{Dst: random.Intn(4) << 14, Src: random.Intn(4) << 14, Proto: random.Intn(256), Port: random.Intn(65536) >> random.Intn(14), Flags: random.Intn(256), Later: random.Intn(6) == 0}
			wantOneFits(t, s, l, h)
			if m, _ := flow.Match(s, h); m {
				fitted++
			}
		}
	}
	if told < 3000 || many < 20 || fitted < 1000 {
		t.Errorf("the rules say little: %d cubes, %d rules of too many, %d headers fitted", told, many, fitted)
	}
}
