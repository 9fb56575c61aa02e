package wide

import (
	"tailsure/api"
	"tailsure/num"
)

// sum of a first one and of what is made of it, again and again, without an end. Each must be at most half as far from 0 as the one ahead of it: so all that is left out is no farther from 0 than the last one that was taken.
func sum(first api.Span, next func(last api.Span, n int) api.Span) api.Span {
	out, last := first, first
	for n := 1; num.Len(reach(last)) > 1; n++ {
		last = next(last, n)
		out = Add(out, last)
	}
	left := reach(last)
	return Add(out, api.Span{Lo: num.Neg(left), Hi: left, Bits: first.Bits})
}

// rising: the sum likewise, of what is nowhere below 0, and behind number turn, each counted from 0, at most three quarters of the one ahead of it: so all that is left out is at most three times the last one that was taken, which is at most 3: rounded up, three quarters of what is more than that are less than it, and so it ends.
func rising(first api.Span, turn int, next func(last api.Span, n int) api.Span) api.Span {
	out, last := first, first
	for n := 1; n <= turn || num.Len(last.Hi) > 2; n++ {
		last = next(last, n)
		out = Add(out, last)
	}
	return Add(out, api.Span{Hi: num.Of(9), Bits: first.Bits})
}

// halvings is by how many bits what goes into the series of Exp is below 1: more of them make it shorter, and cost more squares.
const halvings = 8

// Exp: e to the power of one.
func Exp(a api.Span) api.Span {
	times := max(0, num.Len(reach(a))-a.Bits+halvings)
	small := api.Span{Lo: num.Down(a.Lo, times), Hi: ceilDown(a.Hi, times), Bits: a.Bits}
	out := sum(One(a.Bits), func(last api.Span, n int) api.Span { return Over(Mul(last, small), n) })
	for range times {
		out = Mul(out, out)
	}
	return out
}

// One: the span that has just 1.
func One(bits int) api.Span { return Of(num.Of(1), num.Of(1), bits) }

// Log: the logarithm of the first number over the second one, both more than 0.
func Log(n, d num.Int, bits int) api.Span {
	n, d, twos := balanced(n, d)
	out := logNear(n, d, bits)
	two := logNear(num.Of(2), num.Of(1), bits)
	if twos < 0 {
		return Sub(out, Times(two, -twos))
	}
	return Add(out, Times(two, twos))
}

// balanced: the same quotient, less a power of 2, from 3/4 to 3/2; and which power it is.
func balanced(n, d num.Int) (num.Int, num.Int, int) {
	twos := num.Len(n) - num.Len(d)
	n, d = num.Up(n, max(0, -twos)), num.Up(d, max(0, twos))
	switch {
	case num.Cmp(num.Up(n, 1), num.Mul(d, num.Of(3))) > 0:
		return n, num.Up(d, 1), twos + 1
	case num.Cmp(num.Up(n, 2), num.Mul(d, num.Of(3))) < 0:
		return num.Up(n, 1), d, twos - 1
	}
	return n, d, twos
}

// logNear: the logarithm of a quotient from 1/2 to 2, as twice the series of z, z^3 over 3, z^5 over 5 .., where z is (n less d) over (n and d): from -1/3 to 1/3.
func logNear(n, d num.Int, bits int) api.Span {
	z := Of(num.Sub(n, d), num.Add(n, d), bits)
	square := Mul(z, z)
	half := sum(z, func(last api.Span, n int) api.Span {
		return Scale(Mul(last, square), num.Of(2*n-1), num.Of(2*n+1))
	})
	return Times(half, 2)
}

// logSpan: the logarithm of one that has nothing but what is more than 0.
func logSpan(a api.Span) api.Span {
	unit := num.Up(num.Of(1), a.Bits)
	return api.Span{Lo: Log(a.Lo, unit, a.Bits).Lo, Hi: Log(a.Hi, unit, a.Bits).Hi, Bits: a.Bits}
}

// pi, by Machin's rule.
func pi(bits int) api.Span {
	return Sub(Times(angle(5, bits), 16), Times(angle(239, bits), 4))
}

// angle whose tangent is 1 over n, which is 2 or more: the series of 1 over n, less that of its power of 3, over 3, and so on.
func angle(n, bits int) api.Span {
	return sum(Of(num.Of(1), num.Of(n), bits), func(last api.Span, k int) api.Span {
		return Opposite(Scale(last, num.Of(2*k-1), num.Of((2*k+1)*n*n)))
	})
}
