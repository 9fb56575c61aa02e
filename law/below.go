package law

import (
	"tailsure/api"
	"tailsure/num"
	"tailsure/wide"
)

// never: just 0.
func never(bits int) api.Span { return wide.Of(num.Of(0), num.Of(1), bits) }

// below: how likely it is, by a law that is right, to be at most x; by as many bits as one likes.
func below(l api.Law, x api.Ratio, bits int) api.Span {
	switch l.Kind {
	case api.LawNormal:
		return normal(l, x, bits)
	case api.LawWait:
		return wait(l, x, bits)
	case api.LawGamma:
		return gamma(l, x, bits)
	case api.LawBeta:
		return beta(l, x, bits)
	case api.LawStudent:
		return student(l.A, x, bits)
	case api.LawCount:
		return count(l, floor(x), bits)
	}
	return rare(l.A, floor(x), bits)
}

// normal: (x less A) over B may be too great for a ratio.
func normal(l api.Law, x api.Ratio, bits int) api.Span {
	less := num.Of(x.Num*l.A.Den - l.A.Num*x.Den)
	below := num.Of(x.Den * l.A.Den)
	return wide.Normal(num.Mul(less, num.Of(l.B.Den)), num.Mul(below, num.Of(l.B.Num)), bits)
}

// wait: A times x, if it is more than 0, is at least 2 to the power of -20, and so, by as many bits as Sure takes, the power is less than 1 for sure: no end is below 0.
func wait(l api.Law, x api.Ratio, bits int) api.Span {
	if x.Num <= 0 {
		return never(bits)
	}
	return wide.Rest(wide.Exp(wide.Of(num.Of(-l.A.Num*x.Num), num.Of(l.A.Den*x.Den), bits)))
}

func gamma(l api.Law, x api.Ratio, bits int) api.Span {
	if x.Num <= 0 {
		return never(bits)
	}
	return wide.Lower(l.A, num.Of(l.B.Num*x.Num), num.Of(l.B.Den*x.Den), bits)
}

func beta(l api.Law, x api.Ratio, bits int) api.Span {
	switch {
	case x.Num <= 0:
		return never(bits)
	case x.Num >= x.Den:
		return wide.One(bits)
	}
	return wide.Part(num.Of(x.Num), num.Of(x.Den), l.A, l.B, bits)
}

// student: a is how free.
func student(a, x api.Ratio, bits int) api.Span {
	if x.Num == 0 {
		return wide.Of(num.Of(1), num.Of(2), bits)
	}
	free := num.Mul(num.Of(a.Num), num.Of(x.Den*x.Den))
	square := num.Mul(num.Of(a.Den), num.Of(x.Num*x.Num))
	half := wide.Over(wide.Part(free, num.Add(free, square), api.Ratio{Num: a.Num, Den: 2 * a.Den}, api.Ratio{Num: 1, Den: 2}, bits), 2)
	if x.Num < 0 {
		return half
	}
	return wide.Rest(half)
}

// floor: down to a whole number.
func floor(x api.Ratio) int {
	n := x.Num / x.Den
	if n*x.Den > x.Num { // the language goes towards 0
		n--
	}
	return n
}
