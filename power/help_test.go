package power_test

import (
	"math/big"
	"slices"
	"testing"

	"tailsure/api"
	"tailsure/num"
	"tailsure/power"
	"tailsure/span"
)

// toBig: a number of package num as one of the library.
func toBig(a num.Int) *big.Int {
	out := new(big.Int)
	for i := len(a.Digits) - 1; i >= 0; i-- {
		out.Add(out.Lsh(out, 16), big.NewInt(int64(a.Digits[i])))
	}
	if a.Neg {
		out.Neg(out)
	}
	return out
}

// ends of a span, over 2 to the power of its bits.
func ends(s api.Span) (*big.Rat, *big.Rat) {
	one := new(big.Int).Lsh(big.NewInt(1), uint(s.Bits))
	return new(big.Rat).SetFrac(toBig(s.Lo), one), new(big.Rat).SetFrac(toBig(s.Hi), one)
}

func rat(r api.Ratio) *big.Rat { return big.NewRat(int64(r.Num), int64(r.Den)) }

// prec is with how many bits the tests reckon on their own.
const prec = 2400

func float(r *big.Rat) *big.Float { return new(big.Float).SetPrec(prec).SetRat(r) }

// expOf: e to the power of x, nearly: by its plain series, so not as the program has it.
func expOf(x *big.Rat) *big.Float {
	y := float(new(big.Rat).Abs(x))
	term := new(big.Float).SetPrec(prec).SetInt64(1)
	out := new(big.Float).SetPrec(prec).SetInt64(1)
	for n := int64(1); term.Sign() > 0 && term.MantExp(nil) > -prec/2; n++ {
		term.Quo(term.Mul(term, y), new(big.Float).SetInt64(n))
		out.Add(out, term)
	}
	if x.Sign() < 0 {
		return out.Quo(new(big.Float).SetPrec(prec).SetInt64(1), out)
	}
	return out
}

// sure: a call answered a span by those bits that is right and narrow by 4.
func sure(t *testing.T, what string, s api.Span, e api.Errno, bits int) {
	t.Helper()
	if e != api.OK || s.Bits != bits || span.Check(s) != api.OK {
		t.Fatalf("%s: error %v, span %v", what, e, s)
	}
	if ok, e := span.Narrow(s, 4); !ok || e != api.OK {
		t.Errorf("%s: %v is not narrow", what, s)
	}
}

// refuses: a call answered this error, and nothing beside it.
func refuses(t *testing.T, what string, s api.Span, e, want api.Errno) {
	t.Helper()
	if e != want || s.Bits != 0 || !blank(s.Lo) || !blank(s.Hi) {
		t.Errorf("%s: it is %v, error %v and must be error %v", what, s, e, want)
	}
}

func blank(a num.Int) bool { return !a.Neg && len(a.Digits) == 0 }

func same(a, b api.Span) bool {
	alike := func(x, y num.Int) bool { return x.Neg == y.Neg && slices.Equal(x.Digits, y.Digits) }
	return alike(a.Lo, b.Lo) && alike(a.Hi, b.Hi) && a.Bits == b.Bits
}

// call is a call of package power, with all that it is handed but its bits.
type call struct {
	name string
	make func(bits int) (api.Span, api.Errno)
}

// every call, of ratios.
func every(r, k api.Ratio) []call {
	return []call{
		{"Exp", func(bits int) (api.Span, api.Errno) { return power.Exp(r, bits) }},
		{"Log", func(bits int) (api.Span, api.Errno) { return power.Log(r, bits) }},
		{"Pow", func(bits int) (api.Span, api.Errno) { return power.Pow(r, k, bits) }},
	}
}

func ratio(n, d int) api.Ratio { return api.Ratio{Num: n, Den: d} }
