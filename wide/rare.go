package wide

import (
	"tailsure/api"
	"tailsure/num"
)

// Rare: the sum, for n from 0 to last, of a, which is more than 0, to the power of n, over n's factorial, and all of it over e to the power of a. It is the series of that power, which ends at last, if that comes before its numbers are too small to count. No end is beyond 0 or 1.
func Rare(a api.Ratio, last, bits int) api.Span {
	series := rising(One(bits), 2*a.Num/a.Den, func(ahead api.Span, n int) api.Span {
		if n > last {
			return api.Span{Bits: bits}
		}
		return Scale(ahead, num.Of(a.Num), num.Of(a.Den*n))
	})
	return upToOne(overExp(series, a))
}

// RareOne: just the number of that sum that has this n, which is from 0 on.
func RareOne(a api.Ratio, n, bits int) api.Span {
	below := Raised(a.Den, n)
	for k := 2; k <= n; k++ {
		below = num.Mul(below, num.Of(k))
	}
	return upToOne(overExp(Of(Raised(a.Num, n), below, bits), a))
}

// overExp: one over e to the power of a ratio.
func overExp(s api.Span, a api.Ratio) api.Span {
	return Div(s, Exp(Of(num.Of(a.Num), num.Of(a.Den), s.Bits)))
}
