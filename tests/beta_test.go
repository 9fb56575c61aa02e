package tests

import (
	"fmt"
	"math"
	"math/big"
	"testing"

	"tailsure/api"
	"tailsure/span"
)

// otherSide: 1 less a ratio.
func otherSide(x api.Ratio) api.Ratio { return ratio(x.Den-x.Num, x.Den) }

// hasPart: has the span of a part, up to at most one half, what it must; and that of the rest, turned round?
func hasPart(t *testing.T, x, a, b api.Ratio, someBits ...int) {
	t.Helper()
	want := partAt(rat(x), rat(a), rat(b))
	for _, bits := range someBits {
		part(x, a, b).has(t, bits, comparedTo(want))
		part(otherSide(x), b, a).has(t, bits, comparedTo(new(big.Float).Sub(whole64(1), want)))
	}
}

func TestF1(t *testing.T) {
	t.Parallel()
	shapes := []api.Ratio{ratio(1, 1), ratio(1, 2), ratio(1, 100), ratio(1, 1024), ratio(1022, 1023), ratio(33, 10), ratio(7, 1), ratio(100, 1), ratio(102399, 1024)}
	some := []api.Ratio{ratio(0, 1), ratio(1, 1024), ratio(1, 3), ratio(2, 5), ratio(511, 1023), ratio(1, 2), ratio(5, 10)}
	for i, a := range shapes {
		for k, b := range shapes {
			hasPart(t, some[(i+2*k)%len(some)], a, b, allBits[(i+k)%len(allBits)], allBits[(i+3*k+1)%len(allBits)])
		}
	}
	for n := 1; n <= 30; n++ {
		hasPart(t, ratio(n, 61), ratio(n*n*n, 397), ratio(2500-n*n, 30), api.MinBits+n*59%113)
	}
}

// wholePart: the part of whole numbers is a ratio: that of (a and b less 1) things at least a are there, each as likely as x.
func wholePart(x *big.Rat, a, b int64) *big.Rat {
	rest := new(big.Rat).Sub(big.NewRat(1, 1), x)
	out := new(big.Rat)
	for k := a; k < a+b; k++ {
		term := new(big.Rat).SetInt(new(big.Int).Binomial(a+b-1, k))
		for i := int64(0); i < a+b-1; i++ {
			if i < k {
				term.Mul(term, x)
			} else {
				term.Mul(term, rest)
			}
		}
		out.Add(out, term)
	}
	return out
}

// TestF1Whole: with whole numbers it is a ratio, which many a span has at its end.
func TestF1Whole(t *testing.T) {
	t.Parallel()
	for a := 1; a <= 9; a++ {
		for b := 1; b <= 9; b++ {
			for n, d := range []int{1, 2, 3, 4, 8, 10, 16} {
				x := ratio((n*a+b)%(d+1), d)
				want := wholePart(rat(x), int64(a), int64(b))
				part(x, ratio(a, 1), ratio(3*b, 3)).has(t, allBits[(a+b+n)%len(allBits)], comparedToRatio(want))
			}
		}
	}
	part(ratio(1, 4), ratio(2, 1), ratio(1, 1)).has(t, 20, comparedToRatio(big.NewRat(1, 16)))
}

func TestF1Errors(t *testing.T) {
	x, a, b := ratio(1, 3), ratio(7, 2), ratio(2, 1)
	none, many, below, beyond := ratio(0, 1), ratio(101, 1), ratio(-1, 1024), ratio(1024, 1023)
	for _, bad := range []api.Ratio{
		ratio(1, 0), ratio(0, 0), ratio(-1, -1), ratio(1, api.MaxDen+1), ratio(api.MaxNum+1, 1), ratio(-api.MaxNum-1, 1),
		ratio(math.MinInt, 1), ratio(math.MaxInt, math.MaxInt), ratio(1, math.MinInt),
	} {
		refused(t, []wrong{
			{part(bad, a, b), 20, api.ErrRange}, {part(x, bad, b), 20, api.ErrRange}, {part(x, a, bad), 20, api.ErrRange}, {part(bad, bad, bad), 20, api.ErrRange},
			{part(below, bad, b), 20, api.ErrRange}, {part(bad, none, b), 20, api.ErrRange}, {part(x, none, bad), 20, api.ErrRange}, {part(x, bad, many), 20, api.ErrRange},
		})
	}
	for _, bits := range []int{math.MinInt, 0, api.MinBits - 1, api.MaxBits + 1, math.MaxInt} {
		refused(t, []wrong{
			{part(x, a, b), bits, api.ErrRange}, {part(ratio(0, 1), a, b), bits, api.ErrRange}, {part(ratio(1, 1), a, b), bits, api.ErrRange},
			{part(beyond, a, b), bits, api.ErrRange}, {part(x, none, b), bits, api.ErrRange}, {part(x, a, many), bits, api.ErrRange},
		})
	}
	for _, bits := range []int{api.MinBits, 20, api.MaxBits} {
		refused(t, []wrong{
			{part(below, a, b), bits, api.ErrNone}, {part(beyond, a, b), bits, api.ErrNone}, {part(ratio(api.MaxNum, 1), a, b), bits, api.ErrNone},
			{part(ratio(-api.MaxNum, 1), a, b), bits, api.ErrNone}, {part(x, none, b), bits, api.ErrNone}, {part(x, a, none), bits, api.ErrNone},
			{part(x, ratio(-1, 1024), b), bits, api.ErrNone}, {part(x, a, ratio(-101, 1)), bits, api.ErrNone},
			{part(ratio(0, 1), none, b), bits, api.ErrNone}, {part(ratio(1, 1), a, none), bits, api.ErrNone},
			// ahead of ErrMany, whichever it is told of
			{part(below, many, b), bits, api.ErrNone}, {part(beyond, a, many), bits, api.ErrNone}, {part(x, none, many), bits, api.ErrNone}, {part(x, many, none), bits, api.ErrNone},
			{part(x, many, b), bits, api.ErrMany}, {part(x, a, many), bits, api.ErrMany}, {part(x, ratio(102401, 1024), b), bits, api.ErrMany},
			{part(x, a, ratio(api.MaxNum, 1)), bits, api.ErrMany}, {part(ratio(0, 1), many, b), bits, api.ErrMany}, {part(ratio(1, 1), a, many), bits, api.ErrMany},
		})
	}
}

// TestF1Least: the promise leaves free which span it is; this one is the least one, in all of these.
func TestF1Least(t *testing.T) {
	areLeast(t, []least{
		{part(ratio(1, 3), ratio(7, 2), ratio(2, 1)), 120, "123f433b391608fd2aa0b2db8ac31a"},
		{part(ratio(1, 3), ratio(7, 2), ratio(2, 1)), 8, "12"},
		{part(ratio(1, 2), ratio(1, 2), ratio(1, 3)), 120, "63391406a34836ba49e1f90159bac1"},
		{part(ratio(1, 1000), ratio(1, 100), ratio(100, 1)), 64, "fb58e2b5bc5fec2e"},
		{part(ratio(999, 1000), ratio(1, 100), ratio(1, 2)), 120, "ffd71a163815bc8621af6b1c8cce9d"},
		{part(ratio(7, 10), ratio(33, 10), ratio(5, 1)), 100, "f6b437f8dd902b3b817e36280"},
		{part(ratio(1, 2), ratio(100, 1), ratio(99, 1)), 120, "78c04b6529eccb43f4d82e8da64a53"},
		{part(ratio(1, 3), ratio(100, 1), ratio(100, 1)), 120, "a7cc7b072f8363d198d1653c4"},
		{part(ratio(1023, 1024), ratio(102399, 1024), ratio(1, 1024)), 120, "763e63727e9696aeefd9cf4a9b59"},
		{part(ratio(1, 1024), ratio(1, 1024), ratio(1, 1023)), 120, "7f32ec7ef96a4e4a2891397c7efb95"},
		{part(ratio(1, 1024), ratio(100, 1), ratio(1, 2)), 120, "0"},
		{part(ratio(1023, 1024), ratio(1, 2), ratio(100, 1)), 120, "ffffffffffffffffffffffffffffff"},
		{part(ratio(1, 4), ratio(1, 2), ratio(1, 2)), 90, "15555555555555555555555"},
		{part(ratio(2, 5), ratio(3, 1), ratio(4, 1)), 64, "74a771c970f7b9e0"},
		{part(ratio(512, 1023), ratio(102399, 1024), ratio(102300, 1023)), 120, "816ac78f16e2db33c7792e8db4ef3e"},
		{part(ratio(9, 10), ratio(1, 1), ratio(1, 100)), 33, "ba7901f"},
	})
}

// TestF1Ends: none is beyond 0 or 1; of x 0 it is just 0, of x 1 just 1.
func TestF1Ends(t *testing.T) {
	t.Parallel()
	shapes := []api.Ratio{ratio(1, 1024), ratio(1, 1), ratio(7, 3), ratio(100, 1)}
	for bits := api.MinBits; bits <= api.MaxBits; bits++ {
		for i, a := range shapes {
			for _, b := range shapes {
				part(ratio(0, 1+bits), a, b).is(t, whole(0, bits))
				part(ratio(bits, bits), a, b).is(t, whole(1, bits))
				within(t, part([]api.Ratio{ratio(1, 1024), ratio(1, 2), ratio(99, 100), ratio(1023, 1024)}[(bits+i)%4], a, b), bits, 0, 1)
			}
		}
	}
}

// TestF2Round: turned round it is the other part.
func TestF2Round(t *testing.T) {
	for _, bits := range allBits {
		for n := 0; n <= 40; n++ {
			x, a, b := ratio(n, 40), ratio(n*n+1, 17), ratio(3*n+1, 8)
			meets(t, fmt.Sprint(x, a, b, bits), part(x, a, b).span(t, bits), part(otherSide(x), b, a).span(t, bits), whole(1, bits), span.Add)
		}
	}
}

// TestF2Order: with more x it is more, by steps of any length, from 0 on and up to 1.
func TestF2Order(t *testing.T) {
	for n := 0; n < 40; n++ {
		for _, row := range [][2]api.Ratio{{ratio(1, 1), ratio(1, 1)}, {ratio(1, 2), ratio(1, 1024)}, {ratio(33, 10), ratio(9, 1)}, {ratio(12, 1), ratio(2, 3)}} {
			ordered(t, part(ratio(n, 40), row[0], row[1]), part(ratio(n+1, 40), row[0], row[1]), 100, -1)
		}
	}
	ordered(t, part(ratio(511, 1023), ratio(5, 2), ratio(5, 2)), part(ratio(1, 2), ratio(5, 2), ratio(5, 2)), 20, -1)
	ordered(t, part(ratio(512, 1023), ratio(5, 2), ratio(5, 2)), part(ratio(1, 2), ratio(5, 2), ratio(5, 2)), 20, 1)
}

// TestF2One: where a and b are 1 it is x; where only b is 1, x to the power of a.
func TestF2One(t *testing.T) {
	t.Parallel()
	for bits := api.MinBits; bits <= api.MaxBits; bits++ {
		for _, d := range []int{1, 2, 3, 64, 1000, 1024} {
			x := ratio(bits*7%(d+1), d)
			part(x, ratio(1, 1), ratio(5, 5)).has(t, bits, comparedToRatio(rat(x)))
		}
	}
	for _, bits := range allBits {
		for n := 2; n <= 20; n++ {
			x, a := ratio(n, 20), ratio(n*n, 7)
			meets(t, fmt.Sprint(x, a, bits), part(x, a, ratio(1, 1)).span(t, bits), whole(0, bits), pow(x, a).span(t, bits), span.Add)
		}
	}
}
