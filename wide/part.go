package wide

import (
	"tailsure/api"
	"tailsure/num"
)

// Lower: the part of the gamma function of a, which is more than 0, that comes up to x, which is the first number, from 0 on, over the second one, more than 0. It is the series of 1, x over (a and 1), that times x over (a and 2), and so on, times x to the power of a, over e to the power of x and over the gamma function of (a and 1): nothing is taken away in it. No end is beyond 0 or 1.
func Lower(a api.Ratio, n, d num.Int, bits int) api.Span {
	if num.Sign(n) == 0 {
		return Of(n, d, bits)
	}
	if num.Cmp(n, num.Mul(d, num.Of(fromHereOn(a, bits)))) >= 0 {
		return nearlyOne(bits)
	}
	up := num.Mul(n, num.Of(a.Den))
	turn := small(num.Floor(num.Up(n, 1), d))
	series := rising(One(bits), turn, func(last api.Span, k int) api.Span {
		return Scale(last, up, num.Mul(d, num.Of(a.Num+k*a.Den)))
	})
	powers := Sub(Of(n, d, bits), timesRatio(Log(n, d, bits), a))
	return upToOne(Div(series, Exp(Add(powers, LogGamma(a.Num+a.Den, a.Den, bits)))))
}

// fromHereOn what is left of the gamma function of a is less than the last bit: from x on it is not more than 2 to the power of a, over e to the power of half of x.
func fromHereOn(a api.Ratio, bits int) int { return 2 * (bits + a.Num/a.Den + 1) }

// Part: the part of the beta function of a and b, both more than 0, that comes up to x, which is the first number over the second one, from 0 to 1. It is the series of 1, x times (a and b) over (a and 1), that times x times (a and b and 1) over (a and 2), and so on, times x to the power of a and 1 less x to the power of b, over a and over the beta function of both: nothing is taken away in it. With x at most one half, what comes next is soon at most three quarters; where x is more, it is the rest of the same, turned round. No end is beyond 0 or 1.
func Part(n, d num.Int, a, b api.Ratio, bits int) api.Span {
	left := num.Sub(d, n)
	switch {
	case num.Cmp(n, left) > 0:
		return Rest(Part(left, d, b, a, bits))
	case num.Sign(n) == 0:
		return Of(n, d, bits)
	}
	both := sumOf(a, b)
	series := rising(One(bits), 2*b.Num/b.Den, func(last api.Span, k int) api.Span {
		up := num.Of(both.Num + (k-1)*both.Den)
		down := num.Of((a.Num + k*a.Den) * b.Den)
		return Scale(last, num.Mul(n, up), num.Mul(d, down))
	})
	powers := Add(timesRatio(Log(d, n, bits), a), timesRatio(Log(d, left, bits), b))
	whole := Add(Log(num.Of(a.Num), num.Of(a.Den), bits), LogBeta(a, b, bits))
	return upToOne(Div(series, Exp(Add(powers, whole))))
}

// timesRatio: one times a ratio that is from 0 on.
func timesRatio(s api.Span, r api.Ratio) api.Span { return Scale(s, num.Of(r.Num), num.Of(r.Den)) }

// upToOne: a span of a number that is not more than 1, without what is.
func upToOne(s api.Span) api.Span {
	s.Hi = Least(s.Hi, One(s.Bits).Hi)
	return s
}

// nearlyOne: from the last bit below 1 to 1.
func nearlyOne(bits int) api.Span {
	s := One(bits)
	s.Lo = num.Sub(s.Lo, num.Of(1))
	return s
}

// Rest of a span up to 1.
func Rest(s api.Span) api.Span { return Sub(One(s.Bits), s) }
