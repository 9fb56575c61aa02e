package tests

import (
	"fmt"
	"math"
	"math/big"
	"testing"

	"tailsure/api"
	"tailsure/span"
)

// hasErrors: do the spans of all three have what they must?
func hasErrors(t *testing.T, r api.Ratio, bits int) {
	t.Helper()
	x := float(rat(r))
	whole := erfOf(x)
	erf(r).has(t, bits, comparedTo(whole))
	erfc(r).has(t, bits, comparedTo(new(big.Float).Sub(whole64(1), whole)))
	half := erfOf(x.Quo(x, new(big.Float).Sqrt(whole64(2))))
	normal(r).has(t, bits, comparedTo(half.Quo(half.Add(half, whole64(1)), whole64(2))))
}

func TestC1(t *testing.T) {
	for _, r := range []api.Ratio{
		ratio(0, 1), ratio(0, 1024), ratio(1, 1), ratio(-1, 1), ratio(1, 3), ratio(-7, 2), ratio(14, 4), ratio(1, 1024), ratio(-1, 1024),
		ratio(5, 1), ratio(-40, 7), ratio(63, 10), ratio(-9, 1), ratio(123, 10), ratio(-124, 10), ratio(13, 1), ratio(-1009, 64), ratio(20, 1),
	} {
		for _, bits := range allBits {
			hasErrors(t, r, bits)
		}
	}
	for n := -60; n <= 60; n++ {
		hasErrors(t, ratio(7*n, 29), api.MinBits+(n+60)%113)
	}
}

func TestC1Errors(t *testing.T) {
	for _, made := range []func(api.Ratio) call{erf, erfc, normal} {
		refused(t, []wrong{
			{made(ratio(1, 0)), 20, api.ErrRange}, {made(ratio(0, 0)), 20, api.ErrRange}, {made(ratio(-1, -1)), 20, api.ErrRange},
			{made(ratio(1, api.MaxDen+1)), 20, api.ErrRange}, {made(ratio(math.MaxInt, math.MaxInt)), 20, api.ErrRange},
			{made(ratio(api.MaxNum+1, 1)), 20, api.ErrRange}, {made(ratio(-api.MaxNum-1, 1)), 20, api.ErrRange},
			{made(ratio(1, 1)), api.MinBits - 1, api.ErrRange}, {made(ratio(1, 1)), api.MaxBits + 1, api.ErrRange},
		})
	}
}

// TestC1Least: the promise leaves free which span it is; this one is the least one, in all of these.
func TestC1Least(t *testing.T) {
	areLeast(t, []least{
		{erf(ratio(1, 1)), 120, "d7bb3d3a0844563680887edd869379"},
		{erf(ratio(-1, 1)), 120, "-d7bb3d3a0844563680887edd86937a"},
		{erf(ratio(1, 3)), 64, "5cd681b3fdcbf035"},
		{erf(ratio(-7, 2)), 100, "-fffff3886ab2f393d4a5aedb9"},
		{erf(ratio(1, 1024)), 120, "48375bbfe32e3ccb857c5e825b18"},
		{erf(ratio(5, 1)), 120, "fffffffffe4f3e58a6088c76ca15a2"},
		{erf(ratio(6, 1)), 64, "fffffffffffffe73"},
		{erf(ratio(9, 1)), 120, "ffffffffffffffffffffffffffffff"},
		{erf(ratio(10, 1)), 120, "ffffffffffffffffffffffffffffff"},
		{erf(ratio(-40, 7)), 90, "-3ffffffffffff472e71eb15"},
		{erf(ratio(1023, 1024)), 8, "d7"},
		{erfc(ratio(1, 1)), 120, "2844c2c5f7bba9c97f778122796c86"},
		{erfc(ratio(-1, 1)), 64, "1d7bb3d3a08445636"},
		{erfc(ratio(1, 3)), 64, "a3297e4c02340fca"},
		{erfc(ratio(7, 2)), 100, "c77954d0c6c2b5a51247"},
		{erfc(ratio(1, 1024)), 120, "ffb7c8a4401cd1c3347a83a17da4e7"},
		{erfc(ratio(9, 1)), 120, "0"},
		{erfc(ratio(-9, 1)), 120, "1ffffffffffffffffffffffffffffff"},
		{erfc(ratio(20, 3)), 80, "13b8"},
		{erfc(ratio(-3, 2)), 8, "1f7"},
		{normal(ratio(1, 1)), 120, "d7625e89069be9a4bf22e9ef2dd1d6"},
		{normal(ratio(-1, 1)), 120, "289da176f964165b40dd1610d22e29"},
		{normal(ratio(1, 3)), 64, "a16c4ad621008a0b"},
		{normal(ratio(-7, 2)), 100, "f3ede495bbeea5c1499f9a"},
		{normal(ratio(1, 1024)), 120, "80198844efbe291469f45e38773692"},
		{normal(ratio(12, 1)), 120, "fffffffffffffffffffffffffff6c6"},
		{normal(ratio(-12, 1)), 120, "939"},
		{normal(ratio(-13, 1)), 120, "0"},
		{normal(ratio(196, 100)), 64, "f999bce9de9b3b91"},
		{normal(ratio(2, 1)), 8, "fa"},
	})
}

// TestC1Ends: none is beyond what there is.
func TestC1Ends(t *testing.T) {
	t.Parallel()
	for bits := api.MinBits; bits <= api.MaxBits; bits++ {
		for _, n := range []int{0, 1, 2, 3, 5, 6, 9, 11, 12, 13, 17, 100, api.MaxNum - 1, api.MaxNum} {
			for _, r := range []api.Ratio{ratio(n, 1), ratio(-n, 1), ratio(n, api.MaxDen)} {
				within(t, erf(r), bits, -1, 1)
				within(t, erfc(r), bits, 0, 2)
				within(t, normal(r), bits, 0, 1)
			}
		}
	}
}

// TestC1Far: far from 0 nothing is left but the last bit.
func TestC1Far(t *testing.T) {
	for _, bits := range allBits {
		one, unit, top := whole(1, bits), unitSpan(bits), topSpan(bits)
		for _, n := range []int{20, 1000, api.MaxNum} {
			r, opposite := ratio(n, 1), ratio(-n, 1)
			two, _ := span.Add(one, top)
			below, _ := span.Sub(unit, one)
			for _, row := range []struct {
				call call
				want api.Span
			}{
				{erf(r), top}, {erf(opposite), below}, {erfc(r), unit}, {erfc(opposite), two}, {normal(r), top}, {normal(opposite), unit},
			} {
				row.call.is(t, row.want)
			}
		}
	}
}

// TestC2Opposite: the error function of the opposite is the opposite, and both make 1 with the rest, so far as spans tell.
func TestC2Opposite(t *testing.T) {
	for _, bits := range allBits {
		for n := -30; n <= 30; n++ {
			r, opposite := ratio(n, 9), ratio(-n, 9)
			what := fmt.Sprint(r, " by ", bits, " bits")
			a := erf(r).span(t, bits)
			meets(t, "Erf and Erf of the opposite, "+what, a, erf(opposite).span(t, bits), whole(0, bits), span.Add)
			meets(t, "Erf and Erfc, "+what, a, erfc(r).span(t, bits), whole(1, bits), span.Add)
			meets(t, "Erfc and Erfc of the opposite, "+what, erfc(r).span(t, bits), erfc(opposite).span(t, bits), whole(2, bits), span.Add)
			meets(t, "Normal and Normal of the opposite, "+what, normal(r).span(t, bits), normal(opposite).span(t, bits), whole(1, bits), span.Add)
		}
	}
}

// TestC2Order: where r is more, Erf and Normal are more, and Erfc is less.
func TestC2Order(t *testing.T) {
	for n := -45; n < 45; n++ {
		for _, row := range []struct {
			made func(api.Ratio) call
			want int
		}{{erf, -1}, {erfc, 1}, {normal, -1}} {
			ordered(t, row.made(ratio(n, 10)), row.made(ratio(n+1, 10)), 100, row.want)
		}
	}
}
