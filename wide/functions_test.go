package wide_test

import (
	"testing"

	"tailsure/api"
	"tailsure/num"
	"tailsure/wide"
)

// holds: is the second one, by more bits, nowhere beyond the first one?
func holds(a, b api.Span) bool {
	up := b.Bits - a.Bits
	return num.Cmp(num.Up(a.Lo, up), b.Lo) <= 0 && num.Cmp(b.Hi, num.Up(a.Hi, up)) <= 0
}

// TestFewBitsHoldMany: what is left out of a series must be in its span; by few bits it shows.
func TestFewBitsHoldMany(t *testing.T) {
	for name, made := range map[string]func(n, d, bits int) api.Span{
		"Erf":      func(n, d, bits int) api.Span { return wide.Erf(num.Of(n), num.Of(d), bits) },
		"Exp":      func(n, d, bits int) api.Span { return wide.Exp(wide.Of(num.Of(n), num.Of(d), bits)) },
		"Log":      func(n, d, bits int) api.Span { return wide.Log(num.Of(n), num.Of(d), bits) },
		"Gamma":    wide.Gamma,
		"LogGamma": wide.LogGamma,
	} {
		for bits := 24; bits < 64; bits++ {
			for n := 1; n < 40; n++ {
				d := 1 + n*bits%7
				if few, many := made(n, d, bits), made(n, d, bits+60); !holds(few, many) {
					t.Errorf("%s of %d over %d by %d bits: %v does not hold %v", name, n, d, bits, few, many)
				}
			}
		}
	}
}

// TestErfOfGreatNumbers: only their quotient counts.
func TestErfOfGreatNumbers(t *testing.T) {
	for n := 0; n < 400; n += 7 {
		great := num.Up(num.Of(12345), 90)
		a, b := wide.Erf(num.Of(n), num.Of(3), 120), wide.Erf(num.Mul(great, num.Of(n)), num.Mul(great, num.Of(3)), 120)
		if !overlap(a, b) || num.Len(num.Sub(b.Hi, b.Lo)) > 28 {
			t.Errorf("of the root of %d over 3: %v and %v", n, a, b)
		}
	}
}

// TestGammaByMoreBits: of 5 it is 24, of 1 it is 1.
func TestGammaByMoreBits(t *testing.T) {
	for _, row := range [][3]int{{5, 1, 24}, {1, 1, 1}, {40, 8, 24}, {1 << 21, 1 << 21, 1}} {
		s := wide.Gamma(row[0], row[1], 600)
		if !overlap(s, wide.Of(num.Of(row[2]), num.Of(1), 600)) || num.Len(num.Sub(s.Hi, s.Lo)) > 28 {
			t.Errorf("of %d over %d: %v", row[0], row[1], s)
		}
	}
}
