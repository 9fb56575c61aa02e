// Package wide: spans by any number of bits, and as wide as may be, so that the layers can reckon with more bits than an answer has. Nothing is checked here: what is handed in must be right, and two spans must be by the same bits.
package wide

import (
	"tailsure/api"
	"tailsure/num"
)

// Of the first number over the second one, which is more than 0.
func Of(n, d num.Int, bits int) api.Span {
	up := num.Up(n, bits)
	return api.Span{Lo: num.Floor(up, d), Hi: ceil(up, d), Bits: bits}
}

// To other bits.
func To(s api.Span, bits int) api.Span {
	less := s.Bits - bits
	return api.Span{Lo: num.Down(s.Lo, less), Hi: ceilDown(s.Hi, less), Bits: bits}
}

// Opposite of one.
func Opposite(a api.Span) api.Span {
	return api.Span{Lo: num.Neg(a.Hi), Hi: num.Neg(a.Lo), Bits: a.Bits}
}

// Add two.
func Add(a, b api.Span) api.Span {
	return api.Span{Lo: num.Add(a.Lo, b.Lo), Hi: num.Add(a.Hi, b.Hi), Bits: a.Bits}
}

// Sub: the first one less the second one.
func Sub(a, b api.Span) api.Span { return Add(a, Opposite(b)) }

// corners: what is made of each end of the one and each end of the other; where that only grows or only falls with each of both, its least and its greatest are among them.
func corners(a, b api.Span, made func(x, y num.Int) num.Int) []num.Int {
	return []num.Int{made(a.Lo, b.Lo), made(a.Lo, b.Hi), made(a.Hi, b.Lo), made(a.Hi, b.Hi)}
}

// Mul two.
func Mul(a, b api.Span) api.Span {
	all := corners(a, b, num.Mul)
	return api.Span{Lo: num.Down(Least(all...), a.Bits), Hi: ceilDown(Most(all...), a.Bits), Bits: a.Bits}
}

// Div: the first one over the second one, which has no 0.
func Div(a, b api.Span) api.Span {
	if num.Sign(b.Hi) < 0 { // package num divides by what is more than 0 only
		a, b = Opposite(a), Opposite(b)
	}
	least := Least(corners(a, b, func(x, y num.Int) num.Int { return num.Floor(num.Up(x, a.Bits), y) })...)
	most := Most(corners(a, b, func(x, y num.Int) num.Int { return ceil(num.Up(x, a.Bits), y) })...)
	return api.Span{Lo: least, Hi: most, Bits: a.Bits}
}

// Root of one that has nothing below 0.
func Root(a api.Span) api.Span {
	square := num.Up(a.Hi, a.Bits)
	hi := num.Root(square)
	if num.Cmp(num.Mul(hi, hi), square) < 0 {
		hi = num.Add(hi, num.Of(1))
	}
	return api.Span{Lo: num.Root(num.Up(a.Lo, a.Bits)), Hi: hi, Bits: a.Bits}
}

// Scale: one times the first number, which is from 0 on, over the second one, which is more than 0.
func Scale(a api.Span, n, d num.Int) api.Span {
	return api.Span{Lo: num.Floor(num.Mul(a.Lo, n), d), Hi: ceil(num.Mul(a.Hi, n), d), Bits: a.Bits}
}

// Times a number from 0 on.
func Times(a api.Span, n int) api.Span {
	return api.Span{Lo: num.Mul(a.Lo, num.Of(n)), Hi: num.Mul(a.Hi, num.Of(n)), Bits: a.Bits}
}

// Over a number that is more than 0.
func Over(a api.Span, n int) api.Span { return Scale(a, num.Of(1), num.Of(n)) }

// reach: the greater one of both ends, without their signs.
func reach(a api.Span) num.Int { return Most(a.Hi, num.Neg(a.Lo)) }

// Narrow by n?
func Narrow(a api.Span, n int) bool {
	width := num.Up(num.Sub(a.Hi, a.Lo), a.Bits)
	one := num.Up(num.Of(1), a.Bits)
	return num.Cmp(width, num.Mul(num.Of(n), num.Add(one, reach(a)))) <= 0
}
