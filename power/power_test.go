package power_test

import (
	"fmt"
	"math"
	"math/big"
	"slices"
	"testing"

	"tailsure/api"
	"tailsure/power"
	"tailsure/span"
)

var allBits = []int{api.MinBits, 9, 20, 33, 64, 119, api.MaxBits}

// hasExp: does a span have e to the power of r?
func hasExp(t *testing.T, r api.Ratio, bits int) {
	t.Helper()
	what := fmt.Sprint("Exp ", r, bits)
	s, e := power.Exp(r, bits)
	sure(t, what, s, e, bits)
	lo, hi := ends(s)
	x := expOf(rat(r))
	if float(lo).Cmp(x) > 0 || float(hi).Cmp(x) < 0 {
		t.Errorf("%s: %v does not have it", what, s)
	}
}

// hasLog: does a span have the logarithm of r? It does, if r is between the powers of its ends.
func hasLog(t *testing.T, r api.Ratio, bits int) {
	t.Helper()
	what := fmt.Sprint("Log ", r, bits)
	s, e := power.Log(r, bits)
	sure(t, what, s, e, bits)
	lo, hi := ends(s)
	if expOf(lo).Cmp(float(rat(r))) > 0 || expOf(hi).Cmp(float(rat(r))) < 0 {
		t.Errorf("%s: %v does not have it", what, s)
	}
}

func raised(x *big.Int, k int) *big.Int { return new(big.Int).Exp(x, big.NewInt(int64(k)), nil) }

// hasPow: does a span have r to the power of k? It does, if r to the power of k's Num is between its ends to the power of k's Den.
func hasPow(t *testing.T, r, k api.Ratio, bits int) {
	t.Helper()
	what := fmt.Sprint("Pow ", r, k, bits)
	s, e := power.Pow(r, k, bits)
	sure(t, what, s, e, bits)
	n, d, times := big.NewInt(int64(r.Num)), big.NewInt(int64(r.Den)), k.Num
	if times < 0 {
		n, d, times = d, n, -times
	}
	n, d = raised(n, times), raised(d, times)
	n.Lsh(n, uint(bits*k.Den))
	lo, hi := toBig(s.Lo), toBig(s.Hi)
	if lo.Sign() < 0 {
		lo.SetInt64(0) // its power might be more than 0 again
	}
	lo, hi = raised(lo, k.Den), raised(hi, k.Den)
	if lo.Mul(lo, d).Cmp(n) > 0 || hi.Mul(hi, d).Cmp(n) < 0 {
		t.Errorf("%s: %v does not have it", what, s)
	}
}

func TestB1B2Exp(t *testing.T) {
	for _, r := range []api.Ratio{
		ratio(0, 1), ratio(0, 1024), ratio(1, 1), ratio(-1, 1), ratio(1, 3), ratio(2, 6), ratio(-7, 2), ratio(1, 1024), ratio(-1, 1024),
		ratio(16, 1), ratio(99, 7), ratio(-83, 1), ratio(84, 1), ratio(277, 3),
		ratio(500, 1), ratio(-500, 1), ratio(511999, 1024), ratio(-511999, 1024), ratio(512000, 1024), ratio(-512000, 1024),
	} {
		for _, bits := range allBits {
			hasExp(t, r, bits)
		}
	}
	for n := -60; n <= 60; n++ {
		hasExp(t, ratio(n*n*n, 437), api.MinBits+(n+60)%113)
	}
}

func TestB2ExpErrors(t *testing.T) {
	for _, row := range []struct {
		r    api.Ratio
		bits int
		want api.Errno
	}{
		{ratio(1, 0), 20, api.ErrRange}, {ratio(1, -1), 20, api.ErrRange}, {ratio(1, api.MaxDen+1), 20, api.ErrRange},
		{ratio(api.MaxNum+1, api.MaxDen), 20, api.ErrRange}, {ratio(-api.MaxNum-1, api.MaxDen), 20, api.ErrRange},
		{ratio(1, 1), api.MinBits - 1, api.ErrRange}, {ratio(1, 1), api.MaxBits + 1, api.ErrRange},
		{ratio(501, 1), api.MinBits - 1, api.ErrRange}, {ratio(math.MinInt, 1), 20, api.ErrRange}, // ahead of ErrMany
		{ratio(501, 1), 20, api.ErrMany}, {ratio(-501, 1), 20, api.ErrMany},
		{ratio(512001, 1024), 20, api.ErrMany}, {ratio(-512001, 1024), 20, api.ErrMany},
		{ratio(api.MaxNum, 1), 20, api.ErrMany}, {ratio(-api.MaxNum, 1), 20, api.ErrMany},
	} {
		s, e := power.Exp(row.r, row.bits)
		refuses(t, fmt.Sprint("Exp ", row.r, row.bits), s, e, row.want)
	}
}

func TestB1B3Log(t *testing.T) {
	for _, r := range []api.Ratio{
		ratio(1, 1), ratio(7, 7), ratio(2, 1), ratio(1, 2), ratio(3, 4), ratio(3, 2), ratio(4, 3), ratio(10, 1), ratio(1, 3),
		ratio(1, api.MaxDen), ratio(api.MaxDen-1, api.MaxDen), ratio(api.MaxDen+1, api.MaxDen),
		ratio(api.MaxNum, 1), ratio(api.MaxNum-1, 1), ratio(api.MaxNum, 1023), ratio(65536, 3),
	} {
		for _, bits := range allBits {
			hasLog(t, r, bits)
		}
	}
	for n := 1; n <= 150; n++ {
		hasLog(t, ratio(n*n*3, 1+n*n%1009), api.MinBits+n%113)
	}
}

func TestB3LogErrors(t *testing.T) {
	for _, row := range []struct {
		r    api.Ratio
		bits int
		want api.Errno
	}{
		{ratio(1, 0), 20, api.ErrRange}, {ratio(0, 0), 20, api.ErrRange}, {ratio(-1, -1), 20, api.ErrRange},
		{ratio(api.MaxNum+1, 1), 20, api.ErrRange}, {ratio(1, api.MaxDen+1), 20, api.ErrRange},
		{ratio(1, 1), api.MinBits - 1, api.ErrRange}, {ratio(1, 1), api.MaxBits + 1, api.ErrRange},
		{ratio(0, 1), api.MinBits - 1, api.ErrRange}, {ratio(-api.MaxNum-1, 1), 20, api.ErrRange}, // ahead of ErrNone
		{ratio(0, 1), 20, api.ErrNone}, {ratio(-1, 1024), 20, api.ErrNone}, {ratio(-api.MaxNum, 1), 20, api.ErrNone},
	} {
		s, e := power.Log(row.r, row.bits)
		refuses(t, fmt.Sprint("Log ", row.r, row.bits), s, e, row.want)
	}
}

func TestB1B3Pow(t *testing.T) {
	powers := []api.Ratio{
		ratio(0, 1), ratio(0, 7), ratio(1, 1), ratio(-1, 1), ratio(1, 2), ratio(-3, 1), ratio(2, 3), ratio(-14, 4), ratio(9, 1000), ratio(1, 1024),
		ratio(100, 1), ratio(-100, 1), ratio(102400, 1024), ratio(-102400, 1024), ratio(102399, 1024),
	}
	for i, r := range []api.Ratio{
		ratio(1, 1), ratio(512, 512), ratio(2, 1), ratio(1, 2), ratio(4, 1), ratio(9, 4), ratio(27, 8), ratio(10, 3), ratio(1, 3), ratio(1023, 1024),
		ratio(16, 1), ratio(16384, 1024), ratio(16383, 1024), ratio(1, 16), ratio(64, 1024), ratio(65, 1024),
	} {
		for k, p := range powers {
			hasPow(t, r, p, allBits[(i+k)%len(allBits)])
		}
	}
}

func TestB3PowErrors(t *testing.T) {
	one := ratio(1, 1)
	for _, row := range []struct {
		r, k api.Ratio
		bits int
		want api.Errno
	}{
		{ratio(1, 0), one, 20, api.ErrRange}, {one, ratio(1, 0), 20, api.ErrRange}, {one, ratio(1, -1), 20, api.ErrRange},
		{ratio(1, 1025), one, 20, api.ErrRange}, {one, ratio(1, 1025), 20, api.ErrRange},
		{ratio(api.MaxNum+1, 1), one, 20, api.ErrRange}, {one, ratio(-api.MaxNum-1, 1024), 20, api.ErrRange},
		{one, one, api.MinBits - 1, api.ErrRange}, {one, one, api.MaxBits + 1, api.ErrRange},
		{ratio(0, 1), ratio(1, 0), 20, api.ErrRange}, {ratio(17, 1), ratio(101, 1), 7, api.ErrRange}, // ahead of all others
		{ratio(0, 1), one, 20, api.ErrNone}, {ratio(-1, 1), one, 20, api.ErrNone},
		{ratio(-17, 1), ratio(101, 1), 20, api.ErrNone}, {ratio(0, 1), ratio(0, 1), 20, api.ErrNone}, // ahead of ErrMany
		{ratio(17, 1), one, 20, api.ErrMany}, {ratio(16385, 1024), one, 20, api.ErrMany},
		{ratio(1, 17), one, 20, api.ErrMany}, {ratio(63, 1024), one, 20, api.ErrMany},
		{one, ratio(101, 1), 20, api.ErrMany}, {one, ratio(102401, 1024), 20, api.ErrMany},
		{one, ratio(-101, 1), 20, api.ErrMany}, {one, ratio(-102401, 1024), 20, api.ErrMany},
		{ratio(api.MaxNum, 1), ratio(api.MaxNum, 1), 20, api.ErrMany},
	} {
		s, e := power.Pow(row.r, row.k, row.bits)
		refuses(t, fmt.Sprint("Pow ", row.r, row.k, row.bits), s, e, row.want)
	}
}

// TestB2B3Least: the promise leaves free which span it is; this one is the least one, in all of these.
func TestB2B3Least(t *testing.T) {
	for _, row := range []struct {
		got  call
		bits int
		lo   string // to the base of 16, as other means have it
	}{
		{every(ratio(1, 1), ratio(1, 1))[0], 120, "2b7e151628aed2a6abf7158809cf4f3"},
		{every(ratio(-1, 1), ratio(1, 1))[0], 64, "5e2d58d8b3bcdf1a"},
		{every(ratio(1, 3), ratio(1, 1))[0], 33, "2ca8db637"},
		{every(ratio(-500, 1), ratio(1, 1))[0], 120, "0"},
		{every(ratio(16, 1), ratio(1, 1))[0], 20, "87975e85400"},
		{every(ratio(1, 1024), ratio(1, 1))[0], 120, "100400800aab555dde38e6ce86e9277"},
		{every(ratio(-7, 2), ratio(1, 1))[0], 100, "7bb0406393fd97da56bd480d"},
		{every(ratio(700, 10), ratio(1, 1))[0], 8, "1fbfd219c43b04730797e2bfec1c"},
		{every(ratio(500, 1), ratio(1, 1))[0], 8, "28b74553efc87128fd5d1b2c1ea3a185eaaf8cf2d3b716a4e5e0b6447c51fc0c5338148f30c3820a0a788caa472b0c1ca39a1b376ca518686cc356381b110c638cf3eb225eaf2e232c39ff80b5cc4f7873e51bfad342a7f6dc182ec"},
		{every(ratio(2, 1), ratio(1, 1))[1], 120, "b17217f7d1cf79abc9e3b39803f2f6"},
		{every(ratio(1, 1024), ratio(1, 1))[1], 64, "-6ee74efae321ac0b6"},
		{every(ratio(10, 1), ratio(1, 1))[1], 100, "24d763776aaa2b05ba95b58ae0"},
		{every(ratio(1<<20, 1), ratio(1, 1))[1], 120, "ddce9df5c6435816bc5ca07e04efb45"},
		{every(ratio(1023, 1024), ratio(1, 1))[1], 120, "-40080155956224cd5f35f87d21b0"},
		{every(ratio(1025, 1024), ratio(1, 1))[1], 8, "0"},
		{every(ratio(2, 1), ratio(1, 2))[2], 120, "16a09e667f3bcc908b2fb1366ea957d"},
		{every(ratio(1, 16), ratio(-999, 10))[2], 8, "c203001d9572e35cc9a3990757099bad31253f8ac4aa627a55309e500e38fe6c121ee2161f27bb60f5347ebe9acbfa9da169f8"},
		{every(ratio(3, 2), ratio(-7, 3))[2], 64, "6364e01118ad3b14"},
		{every(ratio(40, 7), ratio(1, 1024))[2], 120, "1006fa5205d654293777d2857ddcb8b"},
	} {
		lo, _ := new(big.Int).SetString(row.lo, 16)
		s, e := row.got.make(row.bits)
		if e != api.OK || toBig(s.Lo).Cmp(lo) != 0 || toBig(s.Hi).Cmp(lo.Add(lo, big.NewInt(1))) != 0 {
			t.Errorf("%s: it is %v, %v and must begin at %s", row.got.name, s, e, row.lo)
		}
	}
}

// TestB2B3Just: where a number of the span is what is asked for, it is that alone.
func TestB2B3Just(t *testing.T) {
	for _, row := range []struct {
		got  call
		want api.Ratio
	}{
		{every(ratio(0, 5), ratio(1, 1))[0], ratio(1, 1)},
		{every(ratio(5, 5), ratio(1, 1))[1], ratio(0, 1)},
		{every(ratio(7, 3), ratio(0, 1))[2], ratio(1, 1)},
		{every(ratio(3, 3), ratio(99, 7))[2], ratio(1, 1)},
		{every(ratio(4, 1), ratio(1, 2))[2], ratio(2, 1)},
		{every(ratio(18, 8), ratio(6, 4))[2], ratio(27, 8)},
		{every(ratio(27, 8), ratio(-2, 3))[2], ratio(4, 9)},
		{every(ratio(1, 16), ratio(5, 4))[2], ratio(1, 32)},
		{every(ratio(3, 1), ratio(-4, 2))[2], ratio(1, 9)},
	} {
		for _, bits := range allBits {
			want, _ := span.Of(row.want, bits)
			if s, e := row.got.make(bits); e != api.OK || !same(s, want) {
				t.Errorf("%s: it is %v, %v and must be %v", row.got.name, s, e, want)
			}
		}
	}
}

// TestB4Exp: the power of a sum is the product of the powers, so far as spans tell.
func TestB4Exp(t *testing.T) {
	for _, bits := range allBits {
		for n := -9; n <= 9; n++ {
			a, b := ratio(5*n, 12), ratio(7*n-3, 12)
			x, _ := power.Exp(a, bits)
			y, _ := power.Exp(b, bits)
			z, _ := power.Exp(ratio(a.Num+b.Num, 12), bits)
			meets(t, fmt.Sprint("Exp of ", a, " and ", b), x, y, z, span.Mul)
		}
	}
}

// meets: what is made of the first two and the third one have something in common.
func meets(t *testing.T, what string, x, y, z api.Span, made func(a, b api.Span) (api.Span, api.Errno)) {
	t.Helper()
	s, e := made(x, y)
	if _, f := span.Meet(s, z); e != api.OK || f != api.OK {
		t.Errorf("%s: %v and %v do not meet", what, s, z)
	}
}

// TestB4Log: the logarithm of a power is what was the power, times that of the ratio; that of a product is the sum.
func TestB4Log(t *testing.T) {
	for _, bits := range allBits {
		for n := 1; n <= 9; n++ {
			r, other := ratio(n+1, n), ratio(3*n, 7)
			x, _ := power.Log(r, bits)
			y, _ := power.Log(other, bits)
			z, _ := power.Log(ratio(r.Num*other.Num, r.Den*other.Den), bits)
			meets(t, fmt.Sprint("Log of ", r, " and ", other), x, y, z, span.Add)
			cube, _ := power.Log(ratio((n+1)*(n+1)*(n+1), n*n*n), bits)
			three, _ := span.Of(ratio(3, 1), bits)
			meets(t, fmt.Sprint("Log of the power of 3 of ", r), x, three, cube, span.Mul)
		}
	}
}

// TestB4Pow: powers of one ratio.
func TestB4Pow(t *testing.T) {
	for _, bits := range allBits {
		for n := 1; n <= 12; n++ {
			r := ratio(n+4, 5)
			x, _ := power.Pow(r, ratio(n, 7), bits)
			y, _ := power.Pow(r, ratio(5-2*n, 7), bits)
			z, _ := power.Pow(r, ratio(5-n, 7), bits)
			meets(t, fmt.Sprint("Pow of ", r), x, y, z, span.Mul)
		}
	}
}

// TestP1: whatever is handed in, each call ends without a panic, and beside an error there is nothing.
func TestP1(t *testing.T) {
	odd := []int{math.MinInt, math.MinInt + 1, -api.MaxNum - 1, -api.MaxNum, -1, 0, 1, 16, 17, 1024, 1025, api.MaxNum, api.MaxNum + 1, 1 << 32, math.MaxInt}
	for _, n := range odd {
		for _, d := range odd {
			for i, bits := range []int{math.MinInt, -1, 0, 7, 8, 120, 121, math.MaxInt} {
				k := ratio(odd[(i+3)%len(odd)], odd[(i*5+6)%len(odd)])
				for _, c := range append(every(ratio(n, d), k), every(k, ratio(n, d))[2]) {
					switch s, e := c.make(bits); e {
					case api.OK:
						sure(t, c.name, s, e, bits)
					case api.ErrRange, api.ErrMany, api.ErrNone:
						refuses(t, c.name, s, e, e)
					default:
						t.Errorf("%s: there is no error %v here", c.name, e)
					}
				}
			}
		}
	}
}

// TestP2P3: an answer is the caller's alone, and the same the next time.
func TestP2P3(t *testing.T) {
	for _, r := range []api.Ratio{ratio(1, 1), ratio(9, 4), ratio(15, 7)} {
		for _, k := range []api.Ratio{ratio(1, 2), ratio(-3, 1), ratio(1, 3)} {
			for _, c := range every(r, k) {
				first, _ := c.make(90)
				was := api.Span{Lo: first.Lo, Hi: first.Hi, Bits: first.Bits}
				was.Lo.Digits, was.Hi.Digits = slices.Clone(first.Lo.Digits), slices.Clone(first.Hi.Digits)
				for i := range first.Lo.Digits[:cap(first.Lo.Digits)] {
					first.Lo.Digits[:cap(first.Lo.Digits)][i] ^= 0x5a5a
				}
				if !slices.Equal(first.Hi.Digits, was.Hi.Digits) {
					t.Errorf("%s: both lists of the answer share memory", c.name)
				}
				for i := range first.Hi.Digits[:cap(first.Hi.Digits)] {
					first.Hi.Digits[:cap(first.Hi.Digits)][i] ^= 0x5a5a
				}
				for _, d := range every(k, r) {
					d.make(33)
				}
				if again, _ := c.make(90); !same(again, was) {
					t.Errorf("%s: it is %v the second time, and was %v", c.name, again, was)
				}
			}
		}
	}
}
