package packet_test

import (
	"fmt"
	"math"
	"strings"
	"testing"

	"sluice/api"
	"sluice/packet"
)

// field: how a header with this number in one of its fields is made, and how many bits that field has.
type field struct {
	kind, width int
	with        func(n int, later bool) api.Header
}

var fields = []field{
	{api.Dst, 16, func(n int, later bool) api.Header { return api.Header{Dst: n, Later: later} }},
	{api.Src, 16, func(n int, later bool) api.Header { return api.Header{Src: n, Later: later} }},
	{api.Proto, 8, func(n int, later bool) api.Header { return api.Header{Proto: n, Later: later} }},
	{api.Port, 16, func(n int, later bool) api.Header { return api.Header{Port: n, Later: later} }},
	{api.Flags, 8, func(n int, later bool) api.Header { return api.Header{Flags: n, Later: later} }},
}

func TestIsHeader(t *testing.T) {
	for _, f := range fields {
		for _, later := range []bool{false, true} {
			most := 1<<f.width - 1
			for _, n := range []int{0, 1, most - 1, most} {
				if h := f.with(n, later); !packet.IsHeader(h) {
					t.Errorf("P5: %+v is a header", h)
				}
			}
			for _, n := range []int{-1, most + 1, -most, 1 << 17, 1 << 32, 1<<32 + 1, math.MinInt, math.MaxInt} {
				if h := f.with(n, later); packet.IsHeader(h) {
					t.Errorf("P5: %+v is no header", h)
				}
			}
		}
	}
}

// TestField: also of types that are none.
func TestField(t *testing.T) {
	h := api.Header{Dst: 1, Src: 2, Proto: 3, Port: 4, Flags: 5}
	for kind := -1; kind <= 7; kind++ {
		is := kind >= 1 && kind <= 5
		want := 0
		if is {
			want = kind
		}
		for _, later := range []bool{false, true} {
			h.Later = later
			n, has := packet.Field(h, kind)
			if n != want || has != (is && (kind <= api.Proto || !later)) {
				t.Errorf("Field(%+v, %d) = %d, %v", h, kind, n, has)
			}
		}
	}
}

func TestMaxField(t *testing.T) {
	for _, f := range fields {
		if n := packet.MaxField(f.kind); n != 1<<f.width-1 {
			t.Errorf("MaxField(%d) = %d", f.kind, n)
		}
	}
}

func TestBits(t *testing.T) {
	for _, h := range []api.Header{
		{}, {Later: true}, {Dst: 65535, Src: 65535, Proto: 255, Port: 65535, Flags: 255}, {Dst: 65535, Src: 65535, Proto: 255, Port: 65535, Flags: 255, Later: true},
		{Dst: 2561, Src: 0x1234, Proto: 6, Port: 80, Flags: 0x12}, {Dst: 2561, Src: 0x1234, Proto: 6, Port: 80, Flags: 0x12, Later: true},
	} {
		wantBits(t, h)
	}
	for _, f := range fields {
		for i := range f.width {
			wantBits(t, f.with(1<<i, false))
			wantBits(t, f.with(1<<f.width-1-1<<i, true))
		}
	}
}

func wantBits(t *testing.T, h api.Header) {
	t.Helper()
	want := fmt.Sprintf("%016b%016b%08b%016b%08b", h.Dst, h.Src, h.Proto, h.Port, h.Flags)
	if h.Later {
		want += "1"
	} else {
		want += "0"
	}
	if s := packet.Bits(h); s != want || len(s) != 65 {
		t.Errorf("Bits(%+v) = %s, want %s", h, s, want)
	}
}

// TestFits: each character by itself, and all of them.
func TestFits(t *testing.T) {
	for _, bits := range []string{packet.Bits(api.Header{}), packet.Bits(api.Header{Dst: 2561, Src: 0x1234, Proto: 6, Port: 80, Flags: 0x12, Later: true})} {
		wantFits(t, bits, bits, true)
		wantFits(t, strings.Repeat("*", 65), bits, true)
		for i := range 65 {
			other := "1"
			if bits[i] == '1' {
				other = "0"
			}
			wantFits(t, bits[:i]+"*"+bits[i+1:], bits, true)
			wantFits(t, bits[:i]+other+bits[i+1:], bits, false)
			wantFits(t, strings.Repeat("*", i)+bits[i:i+1]+strings.Repeat("*", 64-i), bits, true)
			wantFits(t, strings.Repeat("*", i)+other+strings.Repeat("*", 64-i), bits, false)
		}
		wantFits(t, "", bits, false)
		wantFits(t, bits[:64], bits, false)
		wantFits(t, bits+"*", bits, false)
	}
}

func wantFits(t *testing.T, cube, bits string, want bool) {
	t.Helper()
	if packet.Fits(cube, bits) != want {
		t.Errorf("Fits(%s, %s) is not %v", cube, bits, want)
	}
}
