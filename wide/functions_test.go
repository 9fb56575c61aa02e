package wide_test

import (
	"testing"

	"tailsure/api"
	"tailsure/num"
	"tailsure/wide"
)

// holds: is the second one, by more bits, nowhere beyond the first one?
func holds(a, b api.Span) bool {
	up := b.Bits - a.Bits
	return num.Cmp(num.Up(a.Lo, up), b.Lo) <= 0 && num.Cmp(b.Hi, num.Up(a.Hi, up)) <= 0
}

// TestFewBitsHoldMany: what is left out of a series must be in its span; by few bits it shows.
func TestFewBitsHoldMany(t *testing.T) {
	for name, made := range map[string]func(n, d, bits int) api.Span{
		"Erf":      func(n, d, bits int) api.Span { return wide.Erf(num.Of(n), num.Of(d), bits) },
		"Exp":      func(n, d, bits int) api.Span { return wide.Exp(wide.Of(num.Of(n), num.Of(d), bits)) },
		"Log":      func(n, d, bits int) api.Span { return wide.Log(num.Of(n), num.Of(d), bits) },
		"Gamma":    wide.Gamma,
		"LogGamma": wide.LogGamma,
		"Lower": func(n, d, bits int) api.Span {
			return wide.Lower(api.Ratio{Num: n, Den: 3}, num.Of(7*n), num.Of(3*d), bits)
		},
		"Normal":  func(n, d, bits int) api.Span { return wide.Normal(num.Of(20-n), num.Of(2*d), bits) },
		"Rare":    func(n, d, bits int) api.Span { return wide.Rare(api.Ratio{Num: 7 * n, Den: d}, n*d, bits) },
		"RareOne": func(n, d, bits int) api.Span { return wide.RareOne(api.Ratio{Num: n, Den: d}, n*d, bits) },
		"Part": func(n, d, bits int) api.Span {
			return wide.Part(num.Of(n), num.Of(n+7*d), api.Ratio{Num: n, Den: 3}, api.Ratio{Num: d*d + n, Den: d}, bits)
		},
	} {
		for bits := 24; bits < 64; bits++ {
			for n := 1; n < 40; n++ {
				d := 1 + n*bits%7
				if few, many := made(n, d, bits), made(n, d, bits+60); !holds(few, many) {
					t.Errorf("%s of %d over %d by %d bits: %v does not hold %v", name, n, d, bits, few, many)
				}
			}
		}
	}
}

// TestErfOfGreatNumbers: only their quotient counts.
func TestErfOfGreatNumbers(t *testing.T) {
	for n := 0; n < 400; n += 7 {
		great := num.Up(num.Of(12345), 90)
		a, b := wide.Erf(num.Of(n), num.Of(3), 120), wide.Erf(num.Mul(great, num.Of(n)), num.Mul(great, num.Of(3)), 120)
		if !overlap(a, b) || num.Len(num.Sub(b.Hi, b.Lo)) > 28 {
			t.Errorf("of the root of %d over 3: %v and %v", n, a, b)
		}
	}
}

// TestGammaByMoreBits: of 5 it is 24, of 1 it is 1.
func TestGammaByMoreBits(t *testing.T) {
	for _, row := range [][3]int{{5, 1, 24}, {1, 1, 1}, {40, 8, 24}, {1 << 21, 1 << 21, 1}} {
		s := wide.Gamma(row[0], row[1], 600)
		if !overlap(s, wide.Of(num.Of(row[2]), num.Of(1), 600)) || num.Len(num.Sub(s.Hi, s.Lo)) > 28 {
			t.Errorf("of %d over %d: %v", row[0], row[1], s)
		}
	}
}

// TestPartsOfGreatNumbers: only their quotient counts; and what is small against them counts too.
func TestPartsOfGreatNumbers(t *testing.T) {
	great := num.Up(num.Of(12345), 90)
	a, b := api.Ratio{Num: 7, Den: 3}, api.Ratio{Num: 1, Den: 2048}
	for n := 0; n <= 60; n += 5 {
		x, many := num.Of(n), num.Mul(great, num.Of(n))
		for name, both := range map[string][2]api.Span{
			"Lower": {wide.Lower(a, x, num.Of(3), 120), wide.Lower(a, many, num.Mul(great, num.Of(3)), 120)},
			"Part":  {wide.Part(x, num.Of(60), a, b, 120), wide.Part(many, num.Mul(great, num.Of(60)), a, b, 120)},
		} {
			if !overlap(both[0], both[1]) || num.Len(num.Sub(both[1].Hi, both[1].Lo)) > 28 {
				t.Errorf("%s of %d: %v and %v", name, n, both[0], both[1])
			}
		}
	}
}

// TestPartUpToVeryLittle: that of two halves, up to x, is 2 over pi times the angle whose sine is the root of x; which, if it is 2 to the power of -45, is that and less than 2 to the power of -135 more.
func TestPartUpToVeryLittle(t *testing.T) {
	half := api.Ratio{Num: 1, Den: 2}
	s := wide.Part(num.Of(1), num.Up(num.Of(1), 90), half, half, 200)
	rootOfPi := wide.Gamma(1, 2, 200)
	angle := api.Span{Lo: num.Up(num.Of(1), 200-45), Hi: num.Add(num.Up(num.Of(1), 200-45), num.Up(num.Of(1), 200-135)), Bits: 200}
	if want := wide.Div(wide.Times(angle, 2), wide.Mul(rootOfPi, rootOfPi)); !overlap(s, want) || num.Len(num.Sub(s.Hi, s.Lo)) > 28 {
		t.Errorf("it is %v and must be %v", s, want)
	}
}

// TestPartsAtTheirEnds are just 0 and 1, also by more bits.
func TestPartsAtTheirEnds(t *testing.T) {
	a, b := api.Ratio{Num: 7, Den: 3}, api.Ratio{Num: 1, Den: 2048}
	for want, s := range map[int]api.Span{0: wide.Part(num.Of(0), num.Of(5), a, b, 300), 1: wide.Part(num.Of(5), num.Of(5), a, b, 300)} {
		one := num.Up(num.Of(want), 300)
		if num.Cmp(s.Lo, one) != 0 || num.Cmp(s.Hi, one) != 0 {
			t.Errorf("it is %v and must be %d", s, want)
		}
	}
	if s := wide.Lower(a, num.Of(0), num.Of(5), 300); num.Sign(s.Lo) != 0 || num.Sign(s.Hi) != 0 {
		t.Errorf("it is %v and must be 0", s)
	}
}

// TestNormalOfGreatNumbers: only their quotient counts; and what is below 0 is the rest of its opposite.
func TestNormalOfGreatNumbers(t *testing.T) {
	great := num.Up(num.Of(12345), 90)
	for n := -30; n <= 30; n++ {
		a, b := wide.Normal(num.Of(n), num.Of(3), 120), wide.Normal(num.Mul(great, num.Of(n)), num.Mul(great, num.Of(3)), 120)
		if !overlap(a, b) || !overlap(a, wide.Rest(wide.Normal(num.Of(-n), num.Of(3), 120))) || num.Len(num.Sub(b.Hi, b.Lo)) > 28 {
			t.Errorf("of %d over 3: %v and %v", n, a, b)
		}
	}
}

// TestRareIsTheSum of each one, also where the sum ends by itself.
func TestRareIsTheSum(t *testing.T) {
	for _, a := range []api.Ratio{{Num: 1, Den: 1000}, {Num: 7, Den: 3}, {Num: 40, Den: 1}} {
		sum := wide.Of(num.Of(0), num.Of(1), 100)
		for n := 0; n < 250; n++ {
			sum = wide.Add(sum, wide.RareOne(a, n, 100))
			if s := wide.Rare(a, n, 100); !overlap(s, sum) || num.Len(num.Sub(s.Hi, s.Lo)) > 20 {
				t.Errorf("of %v up to %d: %v and %v", a, n, s, sum)
			}
		}
		if s := wide.Rare(a, 1<<30, 100); !overlap(s, wide.One(100)) || num.Cmp(s.Hi, wide.One(100).Hi) > 0 {
			t.Errorf("of %v without an end: %v", a, s)
		}
	}
}

func TestRaised(t *testing.T) {
	for a := -3; a <= 9; a++ {
		want := 1
		for k := 0; k <= 12; k++ {
			if got := wide.Raised(a, k); num.Cmp(got, num.Of(want)) != 0 {
				t.Errorf("%d to the power of %d: %v", a, k, got)
			}
			want *= a
		}
	}
}
