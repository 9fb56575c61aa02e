package wide

import "tailsure/num"

// copied, because an answer may share no memory with what was handed in.
func copied(a num.Int) num.Int { return num.Up(a, 0) }

// ceil: the first one over the second one, which is more than 0, up to a whole number.
func ceil(a, b num.Int) num.Int { return num.Neg(num.Floor(num.Neg(a), b)) }

// ceilDown: over 2 to the power of k, up to a whole number.
func ceilDown(a num.Int, k int) num.Int { return num.Neg(num.Down(num.Neg(a), k)) }

// farthest of some numbers: the least one towards -1, the greatest one towards 1.
func farthest(towards int, all []num.Int) num.Int {
	var out num.Int
	for i, x := range all {
		if i == 0 || num.Cmp(x, out) == towards {
			out = x
		}
	}
	return copied(out)
}

// Least of some numbers.
func Least(all ...num.Int) num.Int { return farthest(-1, all) }

// Most: the greatest one of some numbers.
func Most(all ...num.Int) num.Int { return farthest(1, all) }

// small: a number from 0 on that is not too great, as one of the language.
func small(a num.Int) int {
	out := 0
	for i := len(a.Digits) - 1; i >= 0; i-- {
		out = out<<16 | int(a.Digits[i])
	}
	return out
}

// Raised: a to the power of k, which is from 0 on.
func Raised(a, k int) num.Int {
	out, square := num.Of(1), num.Of(a)
	for ; k > 0; k /= 2 {
		if k%2 == 1 {
			out = num.Mul(out, square)
		}
		square = num.Mul(square, square)
	}
	return out
}
