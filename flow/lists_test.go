package flow_test

import (
	"slices"
	"testing"

	"sluice/api"
	"sluice/flow"
)

// P2, as far as the calls of package flow go.

var (
	otherTerm = api.Term{And: true, Wide: true, Op: 99, Value: 99}
	otherPart = api.Part{Type: 77, Prefix: api.Prefix{Bits: 77, Len: 77}}
)

// roomy: the same rule in lists with spare room, in which something stands already.
func roomy(r api.Rule) api.Rule {
	parts := append([]api.Part{}, r.Parts...)
	for i, p := range parts {
		l := append([]api.Term{}, p.Terms...)
		parts[i].Terms = append(l, otherTerm, otherTerm, otherTerm)[:len(p.Terms)]
	}
	return api.Rule{Parts: append(parts, otherPart, otherPart)[:len(r.Parts)]}
}

func checkRoomUntouched(t *testing.T, r, before api.Rule) {
	t.Helper()
	if !sameRule(r, before) {
		t.Errorf("P2: Encode wrote into its rule: %+v, was %+v", r, before)
	}
	n := len(r.Parts)
	for _, p := range r.Parts[n : n+2] {
		if !samePart(p, otherPart) {
			t.Errorf("P2: Encode wrote behind the parts: %+v", p)
		}
	}
	for _, p := range r.Parts {
		n := len(p.Terms)
		for _, term := range p.Terms[n : n+3] {
			if term != otherTerm {
				t.Errorf("P2: Encode wrote behind the terms: %+v", term)
			}
		}
	}
}

func TestEncodeWritesIntoNothing(t *testing.T) {
	for _, c := range pairs(t) {
		r := roomy(c.rule)
		wantParts(t, r, c.bytes)
		checkRoomUntouched(t, r, c.rule)

		wrong := copyRule(c.rule)
		wrong.Parts[len(wrong.Parts)-1].Type = 6
		r = roomy(wrong)
		wantNoParts(t, r)
		checkRoomUntouched(t, r, wrong)
	}
}

func TestEncodeKeepsNothing(t *testing.T) {
	for _, c := range pairs(t) {
		r := copyRule(c.rule)
		s, _ := flow.Encode(r)
		scribble(r)
		if s != c.bytes {
			t.Errorf("P2: what Encode answered was changed with its rule: % x, want % x", s, c.bytes)
		}
		wantParts(t, c.rule, c.bytes)
	}
}

// scribble writes all over the lists of a rule, and over their spare room.
func scribble(r api.Rule) {
	for _, p := range r.Parts {
		scribbleTerms(p.Terms)
	}
	for i := range r.Parts[:cap(r.Parts)] {
		r.Parts[:cap(r.Parts)][i] = otherPart
	}
}

func scribbleTerms(l []api.Term) {
	for i := range l[:cap(l)] {
		l[:cap(l)][i] = otherTerm
	}
}

func TestDecodeListsAreFresh(t *testing.T) {
	for _, c := range pairs(t) {
		first, _ := flow.Decode(c.bytes)
		second, _ := flow.Decode(c.bytes)
		scribble(first)
		if !sameRule(second, c.rule) {
			t.Errorf("P2: what Decode(% x) answered was changed with another answer: %+v", c.bytes, second)
		}
		wantRule(t, c.bytes, c.rule)
	}
}

func TestDecodeListsOfOneAnswerAreApart(t *testing.T) {
	// Different numbers of terms, so that the lists have spare room of many sizes.
	for a := 1; a <= 8; a++ {
		for b := 1; b <= 8; b++ {
			want := rule(prefix(1, 0, 0), times(3, a, api.Term{Op: 1}), times(4, b, api.Term{Op: 2}), times(5, a, api.Term{Op: 3}))
			for i := range want.Parts {
				r, _ := flow.Decode(bytesAsTold(want))
				scribbleTerms(r.Parts[i].Terms)
				for k := range want.Parts {
					if k != i && !samePart(r.Parts[k], want.Parts[k]) {
						t.Errorf("P2: part %d of %+v was changed with part %d", k, r, i)
					}
				}
			}
		}
	}
}

func TestDecodeListsGrowApart(t *testing.T) {
	want := rule(times(3, 3, api.Term{Op: 1}), times(4, 3, api.Term{Op: 2}))
	r, _ := flow.Decode(bytesAsTold(want))
	for range 8 {
		r.Parts[0].Terms = append(r.Parts[0].Terms, otherTerm)
	}
	if !samePart(r.Parts[1], want.Parts[1]) {
		t.Errorf("P2: the port's terms were changed with the protocol's: %+v", r)
	}
}

func scribbleTexts(l []string) {
	for i := range l[:cap(l)] {
		l[:cap(l)][i] = "other"
	}
}

func TestCubesListsAreFresh(t *testing.T) {
	// From no cubes to 256, so that the lists have spare room of many sizes.
	for _, s := range []string{"04 80 00", "01 00", "04 03 50 c5 52", "05 80 e0", "05 80 fe", "04 86 00", "05 81 01", "03 86 00 05 81 04"} {
		other := raw(t, "01 08 0a 05 80 e0")
		first, _ := flow.Cubes(raw(t, s))
		second, _ := flow.Cubes(raw(t, s))
		third, _ := flow.Cubes(other)
		before, beforeThird := slices.Clone(second), slices.Clone(third)
		scribbleTexts(first)
		_ = append(first, "other", "other")
		if !slices.Equal(second, before) || !slices.Equal(third, beforeThird) {
			t.Errorf("P2: what Cubes answered was changed with what Cubes(%s) answered: %q, %q", s, second, third)
		}
		wantCubes(t, raw(t, s), before)
		wantCubes(t, other, beforeThird)
	}
}

func TestAnswersHangOnArgumentsAlone(t *testing.T) {
	all := pairs(t)
	many := raw(t, "03 86 00 05 81 02")
	var cubes [][]string
	for _, a := range all {
		l, _ := flow.Cubes(a.bytes)
		cubes = append(cubes, l)
	}
	for _, a := range all {
		for k, b := range all {
			wantRule(t, a.bytes, a.rule)
			wantParts(t, b.rule, b.bytes)
			wantMatch(t, a.bytes, headers[4], matchesAsTold(a.rule, headers[4]))
			wantMatch(t, b.bytes, headers[5], matchesAsTold(b.rule, headers[5]))
			wantPlaces(t, a.rule, b.rule)
			wantCubes(t, b.bytes, cubes[k])
			wantNoRule(t, a.bytes+"\xff")
			wantNoParts(t, rule(append(append([]api.Part{}, b.rule.Parts...), otherPart)...))
			wantNoMatch(t, a.bytes+"\xff", headers[4], api.ErrForm)
			wantNoMatch(t, b.bytes, api.Header{Dst: -1}, api.ErrHeader)
			wantNoOrder(t, a.bytes, b.bytes+"\xff")
			wantNoCubes(t, a.bytes+"\xff")
			wantMany(t, many, 512)
		}
	}
}
