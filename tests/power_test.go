package tests

import (
	"fmt"
	"math"
	"math/big"
	"testing"

	"tailsure/api"
	"tailsure/span"
)

func raised(x *big.Int, k int) *big.Int { return new(big.Int).Exp(x, big.NewInt(int64(k)), nil) }

// hasPow: does a span have r to the power of k? It does, if r to the power of k's Num is between its ends to the power of k's Den.
func hasPow(t *testing.T, r, k api.Ratio, bits int) {
	t.Helper()
	n, d, times := big.NewInt(int64(r.Num)), big.NewInt(int64(r.Den)), k.Num
	if times < 0 {
		n, d, times = d, n, -times
	}
	n, d = raised(n, times), raised(d, times)
	pow(r, k).has(t, bits, func(end *big.Rat) int {
		if end.Sign() < 0 { // its power might be more than 0 again
			return -1
		}
		over := new(big.Int).Mul(raised(end.Num(), k.Den), d)
		return over.Cmp(new(big.Int).Mul(raised(end.Denom(), k.Den), n))
	})
}

func TestB1B2Exp(t *testing.T) {
	for _, r := range []api.Ratio{
		ratio(0, 1), ratio(0, 1024), ratio(1, 1), ratio(-1, 1), ratio(1, 3), ratio(2, 6), ratio(-7, 2), ratio(1, 1024), ratio(-1, 1024),
		ratio(16, 1), ratio(99, 7), ratio(-83, 1), ratio(84, 1), ratio(277, 3),
		ratio(500, 1), ratio(-500, 1), ratio(511999, 1024), ratio(-511999, 1024), ratio(512000, 1024), ratio(-512000, 1024),
	} {
		for _, bits := range allBits {
			exp(r).has(t, bits, comparedTo(expOf(float(rat(r)))))
		}
	}
	for n := -60; n <= 60; n++ {
		r := ratio(n*n*n, 437)
		exp(r).has(t, api.MinBits+(n+60)%113, comparedTo(expOf(float(rat(r)))))
	}
}

func TestB2ExpErrors(t *testing.T) {
	refused(t, []wrong{
		{exp(ratio(1, 0)), 20, api.ErrRange}, {exp(ratio(1, -1)), 20, api.ErrRange}, {exp(ratio(1, api.MaxDen+1)), 20, api.ErrRange},
		{exp(ratio(api.MaxNum+1, api.MaxDen)), 20, api.ErrRange}, {exp(ratio(-api.MaxNum-1, api.MaxDen)), 20, api.ErrRange},
		{exp(ratio(1, 1)), api.MinBits - 1, api.ErrRange}, {exp(ratio(1, 1)), api.MaxBits + 1, api.ErrRange},
		{exp(ratio(501, 1)), api.MinBits - 1, api.ErrRange}, {exp(ratio(math.MinInt, 1)), 20, api.ErrRange}, // ahead of ErrMany
		{exp(ratio(501, 1)), 20, api.ErrMany}, {exp(ratio(-501, 1)), 20, api.ErrMany},
		{exp(ratio(512001, 1024)), 20, api.ErrMany}, {exp(ratio(-512001, 1024)), 20, api.ErrMany},
		{exp(ratio(api.MaxNum, 1)), 20, api.ErrMany}, {exp(ratio(-api.MaxNum, 1)), 20, api.ErrMany},
	})
}

func TestB1B3Log(t *testing.T) {
	for _, r := range []api.Ratio{
		ratio(1, 1), ratio(7, 7), ratio(2, 1), ratio(1, 2), ratio(3, 4), ratio(3, 2), ratio(4, 3), ratio(10, 1), ratio(1, 3),
		ratio(1, api.MaxDen), ratio(api.MaxDen-1, api.MaxDen), ratio(api.MaxDen+1, api.MaxDen),
		ratio(api.MaxNum, 1), ratio(api.MaxNum-1, 1), ratio(api.MaxNum, 1023), ratio(65536, 3),
	} {
		for _, bits := range allBits {
			log(r).has(t, bits, raisedTo(float(rat(r))))
		}
	}
	for n := 1; n <= 150; n++ {
		r := ratio(n*n*3, 1+n*n%1009)
		log(r).has(t, api.MinBits+n%113, raisedTo(float(rat(r))))
	}
}

func TestB3LogErrors(t *testing.T) {
	refused(t, []wrong{
		{log(ratio(1, 0)), 20, api.ErrRange}, {log(ratio(0, 0)), 20, api.ErrRange}, {log(ratio(-1, -1)), 20, api.ErrRange},
		{log(ratio(api.MaxNum+1, 1)), 20, api.ErrRange}, {log(ratio(1, api.MaxDen+1)), 20, api.ErrRange},
		{log(ratio(1, 1)), api.MinBits - 1, api.ErrRange}, {log(ratio(1, 1)), api.MaxBits + 1, api.ErrRange},
		{log(ratio(0, 1)), api.MinBits - 1, api.ErrRange}, {log(ratio(-api.MaxNum-1, 1)), 20, api.ErrRange}, // ahead of ErrNone
		{log(ratio(0, 1)), 20, api.ErrNone}, {log(ratio(-1, 1024)), 20, api.ErrNone}, {log(ratio(-api.MaxNum, 1)), 20, api.ErrNone},
	})
}

func TestB1B3Pow(t *testing.T) {
	powers := []api.Ratio{
		ratio(0, 1), ratio(0, 7), ratio(1, 1), ratio(-1, 1), ratio(1, 2), ratio(-3, 1), ratio(2, 3), ratio(-14, 4), ratio(9, 1000), ratio(1, 1024),
		ratio(100, 1), ratio(-100, 1), ratio(102400, 1024), ratio(-102400, 1024), ratio(102399, 1024),
	}
	for i, r := range []api.Ratio{
		ratio(1, 1), ratio(512, 512), ratio(2, 1), ratio(1, 2), ratio(4, 1), ratio(9, 4), ratio(27, 8), ratio(10, 3), ratio(1, 3), ratio(1023, 1024),
		ratio(16, 1), ratio(16384, 1024), ratio(16383, 1024), ratio(1, 16), ratio(64, 1024), ratio(65, 1024),
	} {
		for k, p := range powers {
			hasPow(t, r, p, allBits[(i+k)%len(allBits)])
		}
	}
}

func TestB3PowErrors(t *testing.T) {
	one := ratio(1, 1)
	refused(t, []wrong{
		{pow(ratio(1, 0), one), 20, api.ErrRange}, {pow(one, ratio(1, 0)), 20, api.ErrRange}, {pow(one, ratio(1, -1)), 20, api.ErrRange},
		{pow(ratio(1, 1025), one), 20, api.ErrRange}, {pow(one, ratio(1, 1025)), 20, api.ErrRange},
		{pow(ratio(api.MaxNum+1, 1), one), 20, api.ErrRange}, {pow(one, ratio(-api.MaxNum-1, 1024)), 20, api.ErrRange},
		{pow(one, one), api.MinBits - 1, api.ErrRange}, {pow(one, one), api.MaxBits + 1, api.ErrRange},
		{pow(ratio(0, 1), ratio(1, 0)), 20, api.ErrRange}, {pow(ratio(17, 1), ratio(101, 1)), 7, api.ErrRange}, // ahead of all others
		{pow(ratio(0, 1), one), 20, api.ErrNone}, {pow(ratio(-1, 1), one), 20, api.ErrNone},
		{pow(ratio(-17, 1), ratio(101, 1)), 20, api.ErrNone}, {pow(ratio(0, 1), ratio(0, 1)), 20, api.ErrNone}, // ahead of ErrMany
		{pow(ratio(17, 1), one), 20, api.ErrMany}, {pow(ratio(16385, 1024), one), 20, api.ErrMany},
		{pow(ratio(1, 17), one), 20, api.ErrMany}, {pow(ratio(63, 1024), one), 20, api.ErrMany},
		{pow(one, ratio(101, 1)), 20, api.ErrMany}, {pow(one, ratio(102401, 1024)), 20, api.ErrMany},
		{pow(one, ratio(-101, 1)), 20, api.ErrMany}, {pow(one, ratio(-102401, 1024)), 20, api.ErrMany},
		{pow(ratio(api.MaxNum, 1), ratio(api.MaxNum, 1)), 20, api.ErrMany},
	})
}

// TestB2B3Least: the promise leaves free which span it is; this one is the least one, in all of these.
func TestB2B3Least(t *testing.T) {
	areLeast(t, []least{
		{exp(ratio(1, 1)), 120, "2b7e151628aed2a6abf7158809cf4f3"},
		{exp(ratio(-1, 1)), 64, "5e2d58d8b3bcdf1a"},
		{exp(ratio(1, 3)), 33, "2ca8db637"},
		{exp(ratio(-500, 1)), 120, "0"},
		{exp(ratio(16, 1)), 20, "87975e85400"},
		{exp(ratio(1, 1024)), 120, "100400800aab555dde38e6ce86e9277"},
		{exp(ratio(-7, 2)), 100, "7bb0406393fd97da56bd480d"},
		{exp(ratio(700, 10)), 8, "1fbfd219c43b04730797e2bfec1c"},
		{exp(ratio(500, 1)), 8, "28b74553efc87128fd5d1b2c1ea3a185eaaf8cf2d3b716a4e5e0b6447c51fc0c5338148f30c3820a0a788caa472b0c1ca39a1b376ca518686cc356381b110c638cf3eb225eaf2e232c39ff80b5cc4f7873e51bfad342a7f6dc182ec"},
		{log(ratio(2, 1)), 120, "b17217f7d1cf79abc9e3b39803f2f6"},
		{log(ratio(1, 1024)), 64, "-6ee74efae321ac0b6"},
		{log(ratio(10, 1)), 100, "24d763776aaa2b05ba95b58ae0"},
		{log(ratio(1<<20, 1)), 120, "ddce9df5c6435816bc5ca07e04efb45"},
		{log(ratio(1023, 1024)), 120, "-40080155956224cd5f35f87d21b0"},
		{log(ratio(1025, 1024)), 8, "0"},
		{pow(ratio(2, 1), ratio(1, 2)), 120, "16a09e667f3bcc908b2fb1366ea957d"},
		{pow(ratio(1, 16), ratio(-999, 10)), 8, "c203001d9572e35cc9a3990757099bad31253f8ac4aa627a55309e500e38fe6c121ee2161f27bb60f5347ebe9acbfa9da169f8"},
		{pow(ratio(3, 2), ratio(-7, 3)), 64, "6364e01118ad3b14"},
		{pow(ratio(40, 7), ratio(1, 1024)), 120, "1006fa5205d654293777d2857ddcb8b"},
	})
}

// TestB2B3Just: where a number of the span is what is asked for, it is that alone.
func TestB2B3Just(t *testing.T) {
	for _, row := range []struct {
		call call
		want api.Ratio
	}{
		{exp(ratio(0, 5)), ratio(1, 1)},
		{log(ratio(5, 5)), ratio(0, 1)},
		{pow(ratio(7, 3), ratio(0, 1)), ratio(1, 1)},
		{pow(ratio(3, 3), ratio(99, 7)), ratio(1, 1)},
		{pow(ratio(4, 1), ratio(1, 2)), ratio(2, 1)},
		{pow(ratio(18, 8), ratio(6, 4)), ratio(27, 8)},
		{pow(ratio(27, 8), ratio(-2, 3)), ratio(4, 9)},
		{pow(ratio(1, 16), ratio(5, 4)), ratio(1, 32)},
		{pow(ratio(3, 1), ratio(-4, 2)), ratio(1, 9)},
	} {
		for _, bits := range allBits {
			want, _ := span.Of(row.want, bits)
			if s := row.call.span(t, bits); !same(s, want) {
				t.Errorf("%s: it is %v and must be %v", row.call.name, s, want)
			}
		}
	}
}

// TestB4Exp: the power of a sum is the product of the powers, so far as spans tell.
func TestB4Exp(t *testing.T) {
	for _, bits := range allBits {
		for n := -9; n <= 9; n++ {
			a, b := ratio(5*n, 12), ratio(7*n-3, 12)
			x := exp(a).span(t, bits)
			y := exp(b).span(t, bits)
			z := exp(ratio(a.Num+b.Num, 12)).span(t, bits)
			meets(t, fmt.Sprint("Exp of ", a, " and ", b), x, y, z, span.Mul)
		}
	}
}

// TestB4Log: the logarithm of a power is what was the power, times that of the ratio; that of a product is the sum.
func TestB4Log(t *testing.T) {
	for _, bits := range allBits {
		for n := 1; n <= 9; n++ {
			r, other := ratio(n+1, n), ratio(3*n, 7)
			x := log(r).span(t, bits)
			y := log(other).span(t, bits)
			z := log(ratio(r.Num*other.Num, r.Den*other.Den)).span(t, bits)
			meets(t, fmt.Sprint("Log of ", r, " and ", other), x, y, z, span.Add)
			cube := log(ratio((n+1)*(n+1)*(n+1), n*n*n)).span(t, bits)
			meets(t, fmt.Sprint("Log of the power of 3 of ", r), x, whole(3, bits), cube, span.Mul)
		}
	}
}

// TestB4Pow: powers of one ratio.
func TestB4Pow(t *testing.T) {
	for _, bits := range allBits {
		for n := 1; n <= 12; n++ {
			r := ratio(n+4, 5)
			x := pow(r, ratio(n, 7)).span(t, bits)
			y := pow(r, ratio(5-2*n, 7)).span(t, bits)
			z := pow(r, ratio(5-n, 7)).span(t, bits)
			meets(t, fmt.Sprint("Pow of ", r), x, y, z, span.Mul)
		}
	}
}
