package wide

import (
	"tailsure/api"
	"tailsure/num"
)

// Erf: the error function of the root of the first number, which is from 0 on, over the second one, which is more than 0. With x that root, it is 2 over the root of pi and over e to the power of x^2, times the series of x, x times 2x^2 over 3, that times 2x^2 over 5, and so on: nothing is taken away in it. No end is beyond 0 or 1.
func Erf(n, d num.Int, bits int) api.Span {
	if num.Cmp(n, num.Mul(d, num.Of(bits))) >= 0 { // what is left up to 1 is not more than e to the power of -x^2, and so less than the last bit
		return nearlyOne(bits)
	}
	double := num.Up(n, 1)
	turn := small(num.Floor(double, d))
	series := rising(Root(Of(n, d, bits)), turn, func(last api.Span, k int) api.Span {
		return Scale(last, double, num.Mul(d, num.Of(2*k+1)))
	})
	return upToOne(Div(Times(series, 2), Mul(Root(pi(bits)), Exp(Of(n, d, bits)))))
}

// Normal: half of 1 and the error function of x over the root of 2; x is the first number over the second one, which is more than 0. It is made of the rest of the error function of the opposite: so no end is beyond 0 or 1.
func Normal(n, d num.Int, bits int) api.Span {
	s := Erf(num.Mul(n, n), num.Up(num.Mul(d, d), 1), bits)
	if num.Sign(n) > 0 {
		s = Opposite(s)
	}
	return Over(Rest(s), 2)
}
