package tests

import (
	"fmt"
	"math"
	"math/big"
	"testing"

	"tailsure/api"
	"tailsure/span"
)

// hasParts: have the spans of both parts what they must?
func hasParts(t *testing.T, a, x api.Ratio, someBits ...int) {
	t.Helper()
	low := lowerAt(rat(a), rat(x))
	for _, bits := range someBits {
		lower(a, x).has(t, bits, comparedTo(low))
		upperOf(a, x).has(t, bits, comparedTo(new(big.Float).Sub(whole64(1), low)))
	}
}

func TestE1(t *testing.T) {
	t.Parallel()
	for i, a := range []api.Ratio{
		ratio(1, 1), ratio(1, 2), ratio(1, 100), ratio(1, 1024), ratio(1023, 1024), ratio(5, 1), ratio(10, 2), ratio(33, 10), ratio(40, 7), ratio(100, 1), ratio(102399, 1024),
	} {
		for k, x := range []api.Ratio{
			ratio(0, 1), ratio(0, 1024), ratio(1, 1024), ratio(1, 3), ratio(1, 1), ratio(7, 7), ratio(5, 1), ratio(99, 7), ratio(83, 1), ratio(90, 1), ratio(112000, 1023), ratio(300, 1),
		} {
			hasParts(t, a, x, allBits[(i+k)%len(allBits)], allBits[(i+3*k+1)%len(allBits)])
		}
	}
	for n := 1; n <= 30; n++ {
		hasParts(t, ratio(n*n*n, 397), ratio(n*n, 13), api.MinBits+n*59%113)
	}
}

func TestE1Errors(t *testing.T) {
	a, x := ratio(7, 2), ratio(3, 1)
	var bad []api.Ratio
	for _, n := range []int{math.MinInt, -api.MaxNum - 1, api.MaxNum + 1, math.MaxInt} {
		bad = append(bad, ratio(n, 1), ratio(1, 0), ratio(0, 0), ratio(-1, -1), ratio(1, n), ratio(1, api.MaxDen+1))
	}
	for _, made := range []func(a, x api.Ratio) call{lower, upperOf} {
		for _, r := range bad {
			refused(t, []wrong{
				{made(r, x), 20, api.ErrRange}, {made(a, r), 20, api.ErrRange}, {made(r, r), 20, api.ErrRange},
				{made(r, ratio(-1, 1)), 20, api.ErrRange}, {made(ratio(0, 1), r), 20, api.ErrRange}, {made(ratio(101, 1), r), 20, api.ErrRange},
			})
		}
		for _, bits := range []int{math.MinInt, 0, api.MinBits - 1, api.MaxBits + 1, math.MaxInt} {
			refused(t, []wrong{
				{made(a, x), bits, api.ErrRange}, {made(a, ratio(0, 1)), bits, api.ErrRange}, {made(ratio(0, 1), x), bits, api.ErrRange},
				{made(a, ratio(-1, 1)), bits, api.ErrRange}, {made(ratio(101, 1), x), bits, api.ErrRange},
			})
		}
		refused(t, []wrong{
			{made(ratio(0, 1), x), 20, api.ErrNone}, {made(ratio(-1, 1024), x), 20, api.ErrNone}, {made(ratio(-101, 1), x), 20, api.ErrNone},
			{made(ratio(0, 1), ratio(0, 1)), 20, api.ErrNone}, {made(ratio(0, 1), ratio(api.MaxNum, 1)), 20, api.ErrNone},
			{made(a, ratio(-1, 1)), 20, api.ErrNone}, {made(a, ratio(-1, 1024)), 120, api.ErrNone}, {made(a, ratio(-api.MaxNum, 1)), 8, api.ErrNone},
			{made(ratio(101, 1), ratio(-1, 1)), 20, api.ErrNone}, // ahead of ErrMany
			{made(ratio(101, 1), x), 20, api.ErrMany}, {made(ratio(102401, 1024), x), 20, api.ErrMany}, {made(ratio(api.MaxNum, 1), x), 20, api.ErrMany},
			{made(ratio(101, 1), ratio(0, 1)), 20, api.ErrMany}, {made(ratio(101, 1), ratio(api.MaxNum, 1)), 20, api.ErrMany},
		})
	}
}

// TestE1Least: the promise leaves free which span it is; this one is the least one, in all of these.
func TestE1Least(t *testing.T) {
	areLeast(t, []least{
		{lower(ratio(1, 1), ratio(1, 1)), 120, "a1d2a7274c4320e54521387d6fab06"},
		{lower(ratio(1, 2), ratio(1, 2)), 64, "aec4bd120d37d349"},
		{lower(ratio(1, 1024), ratio(1, 1024)), 120, "fe6a7942681ce59449004e337e06c5"},
		{lower(ratio(1, 100), ratio(5, 1)), 90, "3fffceb3c12f41c6074a5ca"},
		{lower(ratio(5, 1), ratio(5, 1)), 120, "8f3bd502898cfb687af82965d14dc9"},
		{lower(ratio(33, 10), ratio(1, 2)), 100, "2022bd6bd322d759eb7e1eb6"},
		{lower(ratio(100, 1), ratio(90, 1)), 120, "28812bb618b362ea14c28b2bb3cc4b"},
		{lower(ratio(100, 1), ratio(110, 1)), 64, "d77b0c9070036152"},
		{lower(ratio(102399, 1024), ratio(1, 1024)), 120, "0"},
		{lower(ratio(102399, 1024), ratio(500, 1)), 120, "ffffffffffffffffffffffffffffff"},
		{lower(ratio(100, 1), ratio(280, 1)), 120, "fffffffffffffffffffffffffffff5"},
		{lower(ratio(7, 2), ratio(3, 1)), 8, "75"},
		{lower(ratio(1, 2), ratio(99, 1)), 120, "ffffffffffffffffffffffffffffff"},
		{upperOf(ratio(1, 1), ratio(1, 1)), 120, "5e2d58d8b3bcdf1abadec7829054f9"},
		{upperOf(ratio(1, 2), ratio(1, 2)), 64, "513b42edf2c82cb6"},
		{upperOf(ratio(1, 1024), ratio(1, 1024)), 120, "19586bd97e31a6bb6ffb1cc81f93a"},
		{upperOf(ratio(1, 1024), ratio(40, 1)), 100, "7aea129"},
		{upperOf(ratio(5, 1), ratio(20, 1)), 120, "11c491efb1570693452894b9c88"},
		{upperOf(ratio(33, 10), ratio(1, 2)), 100, "fdfdd42942cdd28a61481e149"},
		{upperOf(ratio(100, 1), ratio(90, 1)), 120, "d77ed449e74c9d15eb3d74d44c33b4"},
		{upperOf(ratio(100, 1), ratio(230, 1)), 120, "bd8eed5b9f16"},
		{upperOf(ratio(1, 1), ratio(83, 1)), 120, "1"},
		{upperOf(ratio(7, 2), ratio(3, 1)), 8, "8a"},
	})
}

// TestE1Ends: none is beyond what there is.
func TestE1Ends(t *testing.T) {
	for bits := api.MinBits; bits <= api.MaxBits; bits += 7 {
		for _, a := range []api.Ratio{ratio(1, 1024), ratio(1, 1), ratio(7, 3), ratio(100, 1)} {
			for _, x := range []api.Ratio{ratio(0, 1), ratio(1, 1024), ratio(2, 1), ratio(40, 1), ratio(85, 1), ratio(250, 1), ratio(600, 1), ratio(api.MaxNum, 1)} {
				within(t, lower(a, x), bits, 0, 1)
				within(t, upperOf(a, x), bits, 0, 1)
			}
		}
	}
}

// TestE1Far: of x 0 nothing comes; from far on nothing is left but the last bit.
func TestE1Far(t *testing.T) {
	for _, bits := range allBits {
		for _, a := range []api.Ratio{ratio(1, 1024), ratio(1, 1), ratio(100, 1)} {
			for _, x := range []api.Ratio{ratio(400, 1), ratio(500, 1), ratio(1000, 1), ratio(api.MaxNum, 1024), ratio(api.MaxNum, 1)} {
				lower(a, x).is(t, topSpan(bits))
				upperOf(a, x).is(t, unitSpan(bits))
			}
			lower(a, ratio(0, 7)).is(t, whole(0, bits))
			upperOf(a, ratio(0, 7)).is(t, whole(1, bits))
		}
	}
}

// TestE2Together: both parts are 1 together.
func TestE2Together(t *testing.T) {
	for _, bits := range allBits {
		for n := 0; n <= 30; n++ {
			a, x := ratio(n*n+1, 10), ratio(n*11%37, 3)
			meets(t, fmt.Sprint(a, x, bits), lower(a, x).span(t, bits), upperOf(a, x).span(t, bits), whole(1, bits), span.Add)
		}
	}
}

// TestE2Order: with more x the lower one is more, and the upper one less; with more a it is the other way round.
func TestE2Order(t *testing.T) {
	t.Parallel()
	for n := 0; n < 60; n++ {
		for _, a := range []api.Ratio{ratio(1, 1024), ratio(1, 2), ratio(1, 1), ratio(33, 10), ratio(12, 1)} {
			x, more := ratio(n, 4), ratio(n+1, 4)
			ordered(t, lower(a, x), lower(a, more), 100, -1)
			ordered(t, upperOf(a, x), upperOf(a, more), 100, 1)
			ordered(t, lower(a, more), lower(ratio(a.Num+1, a.Den), more), 120, 1)
		}
	}
}

// TestE2Step: of a and 1 it is less, by x to the power of a, times e to the power of -x, over the gamma function of a and 1.
func TestE2Step(t *testing.T) {
	for _, bits := range allBits {
		for n := 1; n <= 25; n++ {
			a, x := ratio(n*n, 16), ratio(n*13%29+2, 5)
			next := ratio(a.Num+a.Den, a.Den)
			power, e := span.Mul(pow(x, a).span(t, bits), exp(ratio(-x.Num, x.Den)).span(t, bits))
			less, f := span.Div(power, gammaOf(next).span(t, bits))
			if e != api.OK || f != api.OK {
				t.Fatalf("%v and %v: errors %v, %v", a, x, e, f)
			}
			meets(t, fmt.Sprint(a, x, bits), lower(a, x).span(t, bits), less, lower(next, x).span(t, bits), span.Sub)
			meets(t, fmt.Sprint(a, x, bits), upperOf(a, x).span(t, bits), less, upperOf(next, x).span(t, bits), span.Add)
		}
	}
}

// TestE2One: of a 1 the upper part is e to the power of -x; of a 1 over 2 the lower one is the error function of the root of x.
func TestE2One(t *testing.T) {
	for _, bits := range allBits {
		for n := 0; n <= 40; n++ {
			meets(t, fmt.Sprint("Upper of 1 and ", n), upperOf(ratio(7, 7), ratio(n, 3)).span(t, bits), whole(0, bits), exp(ratio(-n, 3)).span(t, bits), span.Add)
			meets(t, fmt.Sprint("Lower of 1/2 and ", n*n), lower(ratio(1, 2), ratio(n*n, 9)).span(t, bits), whole(0, bits), erf(ratio(n, 3)).span(t, bits), span.Add)
		}
	}
}
