package address_test

import (
	"fmt"
	"math"
	"strings"
	"testing"

	"sluice/address"
	"sluice/api"
)

// first: the bits that a prefix says of an address.
func first(p api.Prefix) string { return fmt.Sprintf("%016b", p.Bits)[:p.Len] }

// some: prefixes of all lengths, with bits at every edge.
func some() []api.Prefix {
	var l []api.Prefix
	for length := range 17 {
		seen := map[int]bool{}
		for _, bits := range []int{0, 1, 0x0a00, 0x0a01, 0x5555, 0x7fff, 0x8000, 0xaaaa, 0xfffe, 0xffff} {
			bits = bits >> (16 - length) << (16 - length)
			if !seen[bits] {
				l = append(l, api.Prefix{Bits: bits, Len: length})
			}
			seen[bits] = true
		}
	}
	return l
}

func TestIsPrefix(t *testing.T) {
	for length := range 17 {
		for bits := range 65536 {
			want := strings.TrimRight(fmt.Sprintf("%016b", bits)[length:], "0") == ""
			if address.IsPrefix(api.Prefix{Bits: bits, Len: length}) != want {
				t.Errorf("IsPrefix(%d of length %d), want %v", bits, length, want)
			}
		}
	}
}

func TestIsNoPrefix(t *testing.T) {
	for _, length := range []int{-1, 17, 32, 63, 64, 65, math.MinInt, math.MaxInt} {
		for _, bits := range []int{0, 1, 0x8000, 65535, 65536, -1} {
			if address.IsPrefix(api.Prefix{Bits: bits, Len: length}) {
				t.Errorf("IsPrefix(%d of length %d)", bits, length)
			}
		}
	}
	for length := range 17 {
		for _, bits := range []int{-1, -65536, 65536, 1 << 17, 1 << 32, math.MinInt, math.MaxInt} {
			if address.IsPrefix(api.Prefix{Bits: bits, Len: length}) {
				t.Errorf("IsPrefix(%d of length %d)", bits, length)
			}
		}
	}
}

func TestLiesIn(t *testing.T) {
	var texts []string
	for number := range 65536 {
		texts = append(texts, fmt.Sprintf("%016b", number))
	}
	for _, p := range some() {
		for number, text := range texts {
			want := strings.HasPrefix(text, first(p))
			if address.LiesIn(number, p) != want {
				t.Fatalf("LiesIn(%d, %+v), want %v", number, p, want)
			}
		}
	}
}

func TestCovers(t *testing.T) {
	for _, a := range some() {
		for _, b := range some() {
			if want := strings.HasPrefix(first(b), first(a)); address.Covers(a, b) != want {
				t.Errorf("Covers(%+v, %+v), want %v", a, b, want)
			}
		}
	}
}

func TestBitsBehind(t *testing.T) {
	want := 65535
	for length := range 17 {
		if n := address.BitsBehind(length); n != want {
			t.Errorf("BitsBehind(%d) = %d, want %d", length, n, want)
		}
		want /= 2
	}
	for _, length := range []int{-1, 17, 80, math.MinInt, math.MaxInt} {
		if n := address.BitsBehind(length); n != 0 {
			t.Errorf("BitsBehind(%d) = %d, want 0", length, n)
		}
	}
}
