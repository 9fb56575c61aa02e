package wide

import (
	"tailsure/api"
	"tailsure/num"
)

// Gamma: the gamma function of n over d, both more than 0.
func Gamma(n, d, bits int) api.Span {
	n, p, q := steps(n, d)
	more := max(0, num.Len(p)-num.Len(q)+1) // as many bits as p over q moves up
	return To(Scale(gammaBelow(n, d, bits+more), p, q), bits)
}

// LogGamma: the logarithm of the gamma function of n over d, both more than 0.
func LogGamma(n, d, bits int) api.Span {
	n, p, q := steps(n, d)
	return Add(logSpan(gammaBelow(n, d, bits)), Log(p, q, bits))
}

// LogBeta: the logarithm of the beta function of a and b, both more than 0.
func LogBeta(a, b api.Ratio, bits int) api.Span {
	both := sumOf(a, b)
	each := Add(LogGamma(a.Num, a.Den, bits), LogGamma(b.Num, b.Den, bits))
	return Sub(each, LogGamma(both.Num, both.Den, bits))
}

// sumOf two ratios, which may be greater than a right one.
func sumOf(a, b api.Ratio) api.Ratio {
	return api.Ratio{Num: a.Num*b.Den + b.Num*a.Den, Den: a.Den * b.Den}
}

// steps down from n over d, each by 1, until it is not more than 1: what n is then, and the quotient of two numbers by which the gamma function was more.
func steps(n, d int) (int, num.Int, num.Int) {
	p, q := num.Of(1), num.Of(1)
	for ; n > d; n -= d {
		p, q = num.Mul(p, num.Of(n-d)), num.Mul(q, num.Of(d))
	}
	return n, p, q
}

// gammaBelow: the gamma function of a, which is n over d, more than 0 and not more than 1. All of its integral from x on is less than e to the power of -x, and so, with x as great as bits, than the last bit. The rest is x to the power of a over e to the power of x, times the series of 1 over a, that times x over (a and 1), that times x over (a and 2), and so on: nothing is taken away in it.
func gammaBelow(n, d, bits int) api.Span {
	x := bits
	series := rising(Of(num.Of(d), num.Of(n), bits), 2*x, func(last api.Span, k int) api.Span {
		return Scale(last, num.Of(x*d), num.Of(n+k*d))
	})
	less := Scale(Log(num.Of(x), num.Of(1), bits), num.Of(n), num.Of(d))
	out := Div(series, Exp(Sub(Of(num.Of(x), num.Of(1), bits), less)))
	out.Hi = num.Add(out.Hi, num.Of(1))
	return out
}
