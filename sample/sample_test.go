package sample_test

import (
	"math"
	"testing"

	"compositor/api"
	"compositor/sample"
)

// pixel returns a pixel of five samples.
func pixel(s [5]uint16) api.Pixel {
	return api.Pixel{C: [3]uint16{s[0], s[1], s[2]}, A: s[3], F: s[4]}
}

// samples returns the five samples of a pixel.
func samples(p api.Pixel) [5]uint16 {
	return [5]uint16{p.C[0], p.C[1], p.C[2], p.A, p.F}
}

// maxima returns values of max around the places where the results change kind:
// 0 and 1, the maxima of both depths, and odd and even numbers.
func maxima() []uint16 {
	return []uint16{0, 1, 2, 3, 10, 100, 127, 128, 254, 255, 256, 257, 4095, 32767, 32768, 65534, 65535}
}

// nearest is the definition of layer 1: (2n + d) / 2d, rounded down.
func nearest(n, d uint64) uint64 { return (2*n + d) / (2 * d) }

func TestMaxOfDepths(t *testing.T) {
	if got, ok := sample.Max(8); got != 255 || !ok {
		t.Errorf("P5.1: Max(8): %d, %v; want 255", got, ok)
	}
	if got, ok := sample.Max(16); got != 65535 || !ok {
		t.Errorf("P5.1: Max(16): %d, %v; want 65535", got, ok)
	}
}

func TestMaxOfOtherNumbers(t *testing.T) {
	check := func(bits int) {
		if got, ok := sample.Max(bits); got != 0 || ok {
			t.Errorf("P5.1: Max(%d): %d, %v; want 0, false", bits, got, ok)
		}
	}
	for bits := -300; bits <= 300; bits++ {
		if bits != 8 && bits != 16 {
			check(bits)
		}
	}
	// Their low bits are those of 8 and 16.
	for _, bits := range []int{1<<8 + 8, 1<<16 + 16, 1<<32 + 8, 1<<32 + 16, 65535, math.MaxInt, math.MinInt, math.MinInt + 8, math.MinInt + 16} {
		check(bits)
	}
}

func TestValidExamples(t *testing.T) {
	for _, r := range []struct {
		s    [5]uint16
		max  uint16
		want bool
	}{
		{[5]uint16{}, 0, true}, {[5]uint16{}, 255, true}, {[5]uint16{}, 65535, true},
		{[5]uint16{0, 0, 0, 0, 255}, 255, true}, {[5]uint16{0, 0, 0, 0, 256}, 255, false}, {[5]uint16{0, 0, 0, 0, 1}, 0, false},
		{[5]uint16{255, 255, 255, 255, 255}, 255, true}, {[5]uint16{65535, 65535, 65535, 65535, 65535}, 65535, true},
		{[5]uint16{256, 0, 0, 256, 256}, 255, false}, {[5]uint16{65535, 65535, 65535, 65535, 65535}, 65534, false},
		{[5]uint16{10, 20, 30, 30, 40}, 255, true}, {[5]uint16{31, 20, 30, 30, 40}, 255, false}, {[5]uint16{10, 31, 30, 30, 40}, 255, false}, {[5]uint16{10, 20, 31, 30, 40}, 255, false},
		{[5]uint16{10, 20, 30, 41, 40}, 255, false}, {[5]uint16{10, 20, 30, 40, 40}, 40, true}, {[5]uint16{10, 20, 30, 40, 40}, 39, false},
		{[5]uint16{0, 0, 0, 65535, 65534}, 65535, false}, {[5]uint16{0, 0, 65535, 65534, 65535}, 65535, false},
	} {
		if got := sample.Valid(pixel(r.s), r.max); got != r.want {
			t.Errorf("P5.1: Valid(%v, %d): %v; want %v", r.s, r.max, got, r.want)
		}
	}
}

// All pixels with samples from a small range, with every order of their samples.
func TestValidOfAllOrders(t *testing.T) {
	for n := range 4 * 4 * 4 * 4 * 4 {
		var s [5]uint16
		for i := range s {
			s[i] = 254 + uint16(n>>(2*i)&3)
		}
		for max := uint16(253); max < 259; max++ {
			want := s[0] <= s[3] && s[1] <= s[3] && s[2] <= s[3] && s[3] <= s[4] && s[4] <= max
			if got := sample.Valid(pixel(s), max); got != want {
				t.Fatalf("P5.1: Valid(%v, %d): %v; want %v", s, max, got, want)
			}
		}
	}
}

func TestTo16(t *testing.T) {
	if got := sample.To16(128); got != 32896 {
		t.Errorf("P5.2: To16(128): %d; want 32896", got)
	}
	for n := range 1 << 16 {
		want := min(n*257, 65535)
		if got := sample.To16(uint16(n)); int(got) != want {
			t.Fatalf("P5.2: To16(%d): %d; want %d", n, got, want)
		}
	}
}

func TestTo8(t *testing.T) {
	for v, want := range map[uint16]uint16{0: 0, 128: 0, 129: 1, 32767: 127, 32768: 128, 65406: 254, 65407: 255, 65535: 255} {
		if got := sample.To8(v); got != want {
			t.Errorf("P5.2: To8(%d): %d; want %d", v, got, want)
		}
	}
	for n := range uint64(1 << 16) {
		if got, want := sample.To8(uint16(n)), nearest(n*255, 65535); uint64(got) != want {
			t.Fatalf("P5.2: To8(%d): %d; want %d", n, got, want)
		}
	}
}

func TestTo8OfTo16(t *testing.T) {
	for v := range uint16(256) {
		if got := sample.To8(sample.To16(v)); got != v {
			t.Errorf("P5.2: To8(To16(%d)): %d", v, got)
		}
	}
}

// A sample at each of the five places, with others around it, of all values.
func TestWidenAndNarrowOfEachSample(t *testing.T) {
	for n := range 1 << 16 {
		var s, wide, narrow [5]uint16
		for i := range s {
			s[i] = uint16(n + 51*i)
			wide[i] = uint16(min(257*int(s[i]), 65535))
			narrow[i] = uint16(nearest(uint64(s[i])*255, 65535))
		}
		p := pixel(s)
		if got := samples(sample.Widen(p)); got != wide {
			t.Fatalf("P5.2: Widen(%v): %v; want %v", s, got, wide)
		}
		if got := samples(sample.Narrow(p)); got != narrow {
			t.Fatalf("P5.2: Narrow(%v): %v; want %v", s, got, narrow)
		}
	}
}

func TestConversionsKeepPixelsValid(t *testing.T) {
	for n := range 1 << 16 {
		f := uint16(n)
		a := f - f/3
		p := pixel([5]uint16{a, a / 2, 0, a, f})
		if got := sample.Narrow(p); !sample.Valid(got, 255) {
			t.Fatalf("P5.2: Narrow(%v), of a valid pixel: %v", p, got)
		}
		if got := sample.Widen(sample.Narrow(p)); !sample.Valid(got, 65535) {
			t.Fatalf("P5.2: Widen of the valid pixel Narrow(%v): %v", p, got)
		}
	}
}

func TestPremultiplyExamples(t *testing.T) {
	for _, r := range []struct{ c, a, max, want uint16 }{
		{200, 128, 255, 100}, {100, 128, 255, 50}, {255, 255, 255, 255}, {255, 7, 255, 7}, {7, 255, 255, 7}, {0, 255, 255, 0}, {255, 0, 255, 0},
		{65535, 65535, 65535, 65535}, {65535, 32768, 65535, 32768}, {1, 32767, 65535, 0}, {1, 32768, 65535, 1},
		// Exact halves: 15 / 10, 5 / 10 and 1 / 2 are rounded up.
		{3, 5, 10, 2}, {1, 5, 10, 1}, {1, 1, 2, 1}, {1, 4, 10, 0}, {1, 1, 3, 0}, {1, 2, 3, 1},
		// Samples that are greater than max count as max.
		{300, 300, 255, 255}, {300, 128, 255, 128}, {128, 300, 255, 128}, {65535, 1, 1, 1}, {1, 65535, 1, 1}, {65535, 65535, 1, 1}, {65535, 0, 255, 0},
		{0, 0, 0, 0}, {1, 1, 0, 0}, {65535, 65535, 0, 0}, {0, 65535, 0, 0}, {65535, 0, 0, 0},
	} {
		if got := sample.Premultiply(r.c, r.a, r.max); got != r.want {
			t.Errorf("P5.3: Premultiply(%d, %d, %d): %d; want %d", r.c, r.a, r.max, got, r.want)
		}
	}
}

func TestStraightExamples(t *testing.T) {
	for _, r := range []struct{ c, a, max, want uint16 }{
		{100, 128, 255, 199}, {50, 128, 255, 100}, {0, 128, 255, 0}, {128, 128, 255, 255}, {255, 255, 255, 255}, {128, 255, 255, 128}, {65535, 65535, 65535, 65535},
		// Exact halves: 3 / 2, 5 / 2 and 1 / 2 are rounded up.
		{1, 2, 3, 2}, {1, 2, 5, 3}, {1, 2, 1, 1}, {1, 3, 1, 0}, {2, 3, 1, 1}, {3, 5, 10, 6},
		// A colour that is greater than a counts as a.
		{200, 128, 255, 255}, {255, 7, 255, 255}, {65535, 1, 65535, 65535}, {129, 128, 255, 255}, {9, 3, 10, 10},
		// An alpha that is greater than max stays as it is.
		{300, 600, 255, 128}, {255, 510, 255, 128}, {65535, 65535, 255, 255}, {1, 65535, 255, 0},
		{0, 0, 255, 0}, {5, 0, 255, 0}, {65535, 0, 65535, 0}, {0, 0, 0, 0}, {5, 5, 0, 0}, {5, 9, 0, 0}, {9, 5, 0, 0},
	} {
		if got := sample.Straight(r.c, r.a, r.max); got != r.want {
			t.Errorf("P5.3: Straight(%d, %d, %d): %d; want %d", r.c, r.a, r.max, got, r.want)
		}
	}
}

func TestPremultiplyAndStraightOf8Bits(t *testing.T) {
	for c := range uint64(300) {
		for a := range uint64(300) {
			want := nearest(min(c, 255)*min(a, 255), 255)
			if got := sample.Premultiply(uint16(c), uint16(a), 255); uint64(got) != want {
				t.Fatalf("P5.3: Premultiply(%d, %d, 255): %d; want %d", c, a, got, want)
			}
			if want = 0; a > 0 {
				want = nearest(min(c, a)*255, a)
			}
			if got := sample.Straight(uint16(c), uint16(a), 255); uint64(got) != want {
				t.Fatalf("P5.3: Straight(%d, %d, 255): %d; want %d", c, a, got, want)
			}
		}
	}
}

// For small values of max the ties are many.
func TestPremultiplyAndStraightOfSmallMaxima(t *testing.T) {
	for max := uint64(0); max < 24; max++ {
		for c := range uint64(30) {
			for a := range uint64(30) {
				var premultiplied, straight uint64
				if max > 0 {
					premultiplied = nearest(min(c, max)*min(a, max), max)
				}
				if a > 0 {
					straight = nearest(min(c, a)*max, a)
				}
				if got := sample.Premultiply(uint16(c), uint16(a), uint16(max)); uint64(got) != premultiplied {
					t.Fatalf("P5.3: Premultiply(%d, %d, %d): %d; want %d", c, a, max, got, premultiplied)
				}
				if got := sample.Straight(uint16(c), uint16(a), uint16(max)); uint64(got) != straight {
					t.Fatalf("P5.3: Straight(%d, %d, %d): %d; want %d", c, a, max, got, straight)
				}
			}
		}
	}
}

// A spread of samples of 16 bits, whose products need 32 bits.
func TestPremultiplyAndStraightOfAllMaxima(t *testing.T) {
	for _, max := range maxima() {
		for c := uint64(0); c < 1<<16; c += 331 {
			for a := uint64(0); a < 1<<16; a += 257 {
				var premultiplied, straight uint64
				m := uint64(max)
				if m > 0 {
					premultiplied = nearest(min(c, m)*min(a, m), m)
				}
				if a > 0 {
					straight = nearest(min(c, a)*m, a)
				}
				if got := sample.Premultiply(uint16(c), uint16(a), max); uint64(got) != premultiplied {
					t.Fatalf("P5.3: Premultiply(%d, %d, %d): %d; want %d", c, a, max, got, premultiplied)
				}
				if got := sample.Straight(uint16(c), uint16(a), max); uint64(got) != straight {
					t.Fatalf("P5.3: Straight(%d, %d, %d): %d; want %d", c, a, max, got, straight)
				}
			}
		}
	}
}
