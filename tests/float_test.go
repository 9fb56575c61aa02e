package tests

import (
	"math"
	"math/big"
	"sync"

	"tailsure/api"
)

// prec is with how many bits the tests reckon on their own.
const prec = 2400

func float(r *big.Rat) *big.Float { return new(big.Float).SetPrec(prec).SetRat(r) }

func whole64(n int64) *big.Float { return new(big.Float).SetPrec(prec).SetInt64(n) }

// compared to a number: on which side of it an end is.
func comparedTo(x *big.Float) func(end *big.Rat) int {
	return func(end *big.Rat) int { return float(end).Cmp(x) }
}

// comparedToRatio: likewise, without any rest.
func comparedToRatio(x *big.Rat) func(end *big.Rat) int {
	return func(end *big.Rat) int { return end.Cmp(x) }
}

// raisedTo: on which side of a number e to the power of an end is.
func raisedTo(x *big.Float) func(end *big.Rat) int {
	return func(end *big.Rat) int { return expOf(float(end)).Cmp(x) }
}

// expOf: e to the power of x, nearly: by its plain series, so not as the program has it.
func expOf(x *big.Float) *big.Float {
	y := new(big.Float).Abs(x)
	term, out := whole64(1), whole64(1)
	for n := int64(1); term.Sign() > 0 && term.MantExp(nil) > -prec/2; n++ {
		term.Quo(term.Mul(term, y), whole64(n))
		out.Add(out, term)
	}
	if x.Sign() < 0 {
		return out.Quo(whole64(1), out)
	}
	return out
}

// logOf: the logarithm of x, nearly: each step makes it right to three times as many bits.
func logOf(x *big.Float) *big.Float {
	start, _ := x.Float64()
	y := new(big.Float).SetPrec(prec).SetFloat64(math.Log(start))
	for range 5 {
		p := expOf(y)
		step := new(big.Float).Quo(new(big.Float).Sub(x, p), new(big.Float).Add(x, p))
		y.Add(y, step.Mul(step, whole64(2)))
	}
	return y
}

// pi, by means and their means: each step makes it right to twice as many bits.
var pi = sync.OnceValue(func() *big.Float {
	a, b := whole64(1), new(big.Float).Sqrt(float(big.NewRat(1, 2)))
	t, p := float(big.NewRat(1, 4)), whole64(1)
	for range 12 {
		mean := new(big.Float).Add(a, b)
		mean.Quo(mean, whole64(2))
		b.Sqrt(b.Mul(b, a))
		less := new(big.Float).Sub(a, mean)
		t.Sub(t, less.Mul(less, less).Mul(less, p))
		p.Mul(p, whole64(2))
		a = mean
	}
	sum := new(big.Float).Add(a, b)
	return sum.Quo(sum.Mul(sum, sum), t.Mul(t, whole64(4)))
})

// erfOf: the error function of x, nearly: by the plain series in which signs change.
func erfOf(x *big.Float) *big.Float {
	square := new(big.Float).Mul(x, x)
	power, out := new(big.Float).Copy(x), new(big.Float).Copy(x)
	for n := int64(1); power.Sign() != 0 && power.MantExp(nil) > -prec/2; n++ {
		power.Neg(power.Quo(power.Mul(power, square), whole64(n)))
		out.Add(out, new(big.Float).Quo(power, whole64(2*n+1)))
	}
	return out.Quo(out.Mul(out, whole64(2)), new(big.Float).Sqrt(pi()))
}

// bernoulli's numbers, all up to the 200th.
var bernoulli = sync.OnceValue(func() []*big.Rat {
	out := []*big.Rat{big.NewRat(1, 1)}
	for n := int64(1); n <= 200; n++ {
		sum := new(big.Rat)
		for k, b := range out {
			ways := new(big.Rat).SetInt(new(big.Int).Binomial(n+1, int64(k)))
			sum.Sub(sum, ways.Mul(ways, b))
		}
		out = append(out, sum.Quo(sum, big.NewRat(n+1, 1)))
	}
	return out
})

// far is from where on Stirling's series, up to the 200th of Bernoulli's numbers, is right to more than 600 bits.
var far = big.NewRat(150, 1)

// gammaAt: the gamma function of x, nearly: by Stirling's series of what is greater by a whole number.
func gammaAt(x *big.Rat) *big.Float {
	below, z := whole64(1), new(big.Rat).Set(x)
	for ; z.Cmp(far) < 0; z.Add(z, big.NewRat(1, 1)) {
		below.Mul(below, float(z))
	}
	y := float(z)
	sum := new(big.Float).Mul(logOf(y), float(new(big.Rat).Sub(z, big.NewRat(1, 2))))
	sum.Sub(sum, y)
	power := new(big.Float).Copy(y)
	for n := int64(2); n < int64(len(bernoulli())); n += 2 {
		b := new(big.Rat).Quo(bernoulli()[n], big.NewRat(n*(n-1), 1))
		sum.Add(sum, new(big.Float).Quo(float(b), power))
		power.Mul(power, y).Mul(power, y)
	}
	out := new(big.Float).Sqrt(new(big.Float).Mul(pi(), whole64(2)))
	return out.Quo(out.Mul(out, expOf(sum)), below)
}

// betaAt: the beta function of x and y, nearly.
func betaAt(x, y *big.Rat) *big.Float {
	out := new(big.Float).Mul(gammaAt(x), gammaAt(y))
	return out.Quo(out, gammaAt(new(big.Rat).Add(x, y)))
}

// powOf: x, which is more than 0, to the power of k, nearly.
func powOf(x, k *big.Rat) *big.Float {
	y := logOf(float(x))
	return expOf(y.Mul(y, float(k)))
}

// lowerAt: the lower part of the gamma function of a, up to x, nearly: by the plain series in which signs change.
func lowerAt(a, x *big.Rat) *big.Float {
	if x.Sign() == 0 {
		return whole64(0)
	}
	power, out := whole64(1), whole64(0)
	for n := int64(0); power.MantExp(nil) > -prec/2; n++ {
		if n > 0 {
			power.Neg(power.Quo(power.Mul(power, float(x)), whole64(n)))
		}
		out.Add(out, new(big.Float).Quo(power, float(new(big.Rat).Add(a, big.NewRat(n, 1)))))
	}
	return out.Quo(out.Mul(out, powOf(x, a)), gammaAt(a))
}

// partAt: the part of the beta function of a and b, up to x, which is at most one half, nearly: by the plain series of 1 less t to the power of b less 1, in which signs may change.
func partAt(x, a, b *big.Rat) *big.Float {
	if x.Sign() == 0 {
		return whole64(0)
	}
	factor, out := whole64(1), whole64(0)
	for n := int64(0); factor.Sign() != 0 && factor.MantExp(nil) > -prec/2; n++ {
		if n > 0 {
			less := new(big.Rat).Sub(big.NewRat(n, 1), b)
			factor.Mul(factor, float(less.Mul(less, x))).Quo(factor, whole64(n))
		}
		out.Add(out, new(big.Float).Quo(factor, float(new(big.Rat).Add(a, big.NewRat(n, 1)))))
	}
	return out.Quo(out.Mul(out, powOf(x, a)), betaAt(a, b))
}

// wholeAt: the part of a and b up to any x from 0 to 1.
func wholeAt(x, a, b *big.Rat) *big.Float {
	if x.Cmp(big.NewRat(1, 2)) <= 0 {
		return partAt(x, a, b)
	}
	rest := partAt(new(big.Rat).Sub(big.NewRat(1, 1), x), b, a)
	return rest.Sub(whole64(1), rest)
}

// studentAt: with the angle of x over the root of a, it is not made of A over (A and the square of x), but of the other side.
func studentAt(a, x *big.Rat) *big.Float {
	square := new(big.Rat).Mul(x, x)
	side := new(big.Rat).Quo(square, new(big.Rat).Add(a, square))
	out := wholeAt(side, big.NewRat(1, 2), new(big.Rat).Mul(a, big.NewRat(1, 2)))
	if x.Sign() < 0 {
		out.Neg(out)
	}
	return out.Quo(out.Add(out, whole64(1)), whole64(2))
}

// rareAt: how likely it is, by LawRare with this mean, that just n comes, nearly.
func rareAt(mean *big.Rat, n int) *big.Float {
	out := expOf(new(big.Float).Neg(float(mean)))
	for k := 1; k <= n; k++ {
		out.Quo(out.Mul(out, float(mean)), whole64(int64(k)))
	}
	return out
}

// countAt: how likely it is, by LawCount, that just n comes.
func countAt(l api.Law, n int) *big.Rat {
	b := rat(l.B)
	rest := new(big.Rat).Sub(big.NewRat(1, 1), b)
	out := new(big.Rat).SetInt(new(big.Int).Binomial(int64(l.A.Num), int64(n)))
	for k := range l.A.Num {
		if k < n {
			out.Mul(out, b)
		} else {
			out.Mul(out, rest)
		}
	}
	return out
}

// belowAt: how likely it is, by a law, that at most x comes, nearly.
func belowAt(l api.Law, x *big.Rat) *big.Float {
	a, b := rat(l.A), rat(l.B)
	switch l.Kind {
	case api.LawNormal:
		far := float(new(big.Rat).Quo(new(big.Rat).Sub(x, a), b))
		half := erfOf(far.Quo(far, new(big.Float).Sqrt(whole64(2))))
		return half.Quo(half.Add(half, whole64(1)), whole64(2))
	case api.LawStudent:
		return studentAt(a, x)
	}
	if x.Sign() < 0 {
		return whole64(0)
	}
	one, sum := big.NewRat(1, 1), whole64(0)
	switch l.Kind {
	case api.LawWait:
		power := new(big.Rat).Mul(a, x)
		return sum.Sub(whole64(1), expOf(float(power.Neg(power))))
	case api.LawGamma:
		return lowerAt(a, new(big.Rat).Mul(b, x))
	case api.LawBeta:
		if x.Cmp(one) >= 0 {
			return whole64(1)
		}
		return wholeAt(x, a, b)
	}
	for n := 0; x.Cmp(big.NewRat(int64(n), 1)) >= 0; n++ {
		if l.Kind == api.LawRare {
			sum.Add(sum, rareAt(a, n))
		} else {
			sum.Add(sum, float(countAt(l, n)))
		}
	}
	return sum
}
