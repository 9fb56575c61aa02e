// Package tests: what the layers answer, held against what the library's great numbers have. (Of package span see there.)
package tests

import (
	"fmt"
	"math/big"
	"slices"
	"testing"

	"tailsure/api"
	"tailsure/beta"
	"tailsure/errorf"
	"tailsure/gamma"
	"tailsure/law"
	"tailsure/num"
	"tailsure/power"
	"tailsure/span"
	"tailsure/upper"
)

var allBits = []int{api.MinBits, 9, 20, 33, 64, 119, api.MaxBits}

func ratio(n, d int) api.Ratio { return api.Ratio{Num: n, Den: d} }

// toBig: a number of package num as one of the library.
func toBig(a num.Int) *big.Int {
	out := new(big.Int)
	for i := len(a.Digits) - 1; i >= 0; i-- {
		out.Add(out.Lsh(out, 16), big.NewInt(int64(a.Digits[i])))
	}
	if a.Neg {
		out.Neg(out)
	}
	return out
}

// ends of a span, over 2 to the power of its bits.
func ends(s api.Span) (*big.Rat, *big.Rat) {
	one := new(big.Int).Lsh(big.NewInt(1), uint(s.Bits))
	return new(big.Rat).SetFrac(toBig(s.Lo), one), new(big.Rat).SetFrac(toBig(s.Hi), one)
}

func rat(r api.Ratio) *big.Rat { return big.NewRat(int64(r.Num), int64(r.Den)) }

func same(a, b api.Span) bool {
	alike := func(x, y num.Int) bool { return x.Neg == y.Neg && slices.Equal(x.Digits, y.Digits) }
	return alike(a.Lo, b.Lo) && alike(a.Hi, b.Hi) && a.Bits == b.Bits
}

// call is a call of a layer that answers a span, with all that it is handed but its bits.
type call struct {
	name string
	make func(bits int) (api.Span, api.Errno)
}

func ofOne(name string, f func(r api.Ratio, bits int) (api.Span, api.Errno)) func(api.Ratio) call {
	return func(r api.Ratio) call {
		return call{fmt.Sprint(name, r), func(bits int) (api.Span, api.Errno) { return f(r, bits) }}
	}
}

func ofTwo(name string, f func(a, b api.Ratio, bits int) (api.Span, api.Errno)) func(a, b api.Ratio) call {
	return func(a, b api.Ratio) call {
		return call{fmt.Sprint(name, a, b), func(bits int) (api.Span, api.Errno) { return f(a, b, bits) }}
	}
}

func ofThree(name string, f func(x, a, b api.Ratio, bits int) (api.Span, api.Errno)) func(x, a, b api.Ratio) call {
	return func(x, a, b api.Ratio) call {
		return call{fmt.Sprint(name, x, a, b), func(bits int) (api.Span, api.Errno) { return f(x, a, b, bits) }}
	}
}

var (
	exp      = ofOne("Exp", power.Exp)
	log      = ofOne("Log", power.Log)
	pow      = ofTwo("Pow", power.Pow)
	erf      = ofOne("Erf", errorf.Erf)
	erfc     = ofOne("Erfc", errorf.Erfc)
	normal   = ofOne("Normal", errorf.Normal)
	logGamma = ofOne("LogGamma", gamma.LogGamma)
	gammaOf  = ofOne("Gamma", gamma.Gamma)
	logBeta  = ofTwo("LogBeta", gamma.LogBeta)
	lower    = ofTwo("Lower", upper.Lower)
	upperOf  = ofTwo("Upper", upper.Upper)
	part     = ofThree("Part", beta.Part)
)

// zero is what B must be, of a law that is made of A alone.
var zero = ratio(0, 1)

func lawOf(kind int, a, b api.Ratio) api.Law { return api.Law{Kind: kind, A: a, B: b} }

func below(l api.Law, x api.Ratio) call {
	return call{fmt.Sprint("Below", l, x), func(bits int) (api.Span, api.Errno) { return law.Below(l, x, bits) }}
}

func above(l api.Law, x api.Ratio) call {
	return call{fmt.Sprint("Above", l, x), func(bits int) (api.Span, api.Errno) { return law.Above(l, x, bits) }}
}

func mass(l api.Law, n int) call {
	return call{fmt.Sprint("Mass", l, n), func(bits int) (api.Span, api.Errno) { return law.Mass(l, n, bits) }}
}

// every call, of ratios, but those of laws.
func every(r, k api.Ratio) []call {
	return []call{
		exp(r), log(r), pow(r, k), erf(r), erfc(r), normal(r), logGamma(r), gammaOf(r), logBeta(r, k),
		lower(r, k), upperOf(r, k), part(k, r, r), part(k, r, ratio(7, 3)), part(ratio(2, 5), k, r),
	}
}

// everyLaw: every call of laws that answers a span, of ratios.
func everyLaw(r, k api.Ratio) []call {
	out := []call{below(lawOf(r.Num, r, k), r), above(lawOf(k.Den, k, r), k), mass(lawOf(r.Den, r, k), k.Num)}
	for kind := api.LawNormal; kind <= api.LawRare; kind++ {
		for _, l := range []api.Law{lawOf(kind, r, k), lawOf(kind, r, zero), lawOf(kind, ratio(7, 1), k), lawOf(kind, ratio(7, 1), ratio(1, 3)), lawOf(kind, ratio(7, 1), zero)} {
			out = append(out, below(l, r), above(l, k), mass(l, r.Num))
		}
	}
	return out
}

// span of a call: it must be by those bits, right, and narrow by 4.
func (c call) span(t *testing.T, bits int) api.Span {
	t.Helper()
	s, e := c.make(bits)
	if e != api.OK || s.Bits != bits || span.Check(s) != api.OK {
		t.Fatalf("%s by %d bits: error %v, span %v", c.name, bits, e, s)
	}
	if ok, e := span.Narrow(s, 4); !ok || e != api.OK {
		t.Errorf("%s: %v is not narrow", c.name, s)
	}
	return s
}

// has: a call's span has a number, if both of its ends are on their sides of it.
func (c call) has(t *testing.T, bits int, side func(end *big.Rat) int) {
	t.Helper()
	s := c.span(t, bits)
	if lo, hi := ends(s); side(lo) > 0 || side(hi) < 0 {
		t.Errorf("%s: %v does not have it", c.name, s)
	}
}

// refuses: a call answers this error, and nothing beside it.
func (c call) refuses(t *testing.T, bits int, want api.Errno) {
	t.Helper()
	s, e := c.make(bits)
	if blank := s.Bits == 0 && len(s.Lo.Digits)+len(s.Hi.Digits) == 0 && !s.Lo.Neg && !s.Hi.Neg; e != want || !blank {
		t.Errorf("%s by %d bits: it is %v, error %v and must be error %v", c.name, bits, s, e, want)
	}
}

// wrong is a call, by those bits, that must answer an error.
type wrong struct {
	call call
	bits int
	want api.Errno
}

func refused(t *testing.T, rows []wrong) {
	t.Helper()
	for _, row := range rows {
		row.call.refuses(t, row.bits, row.want)
	}
}

// least is a call whose span must be from lo, to the base of 16, to one more: other means have it so.
type least struct {
	call call
	bits int
	lo   string
}

func areLeast(t *testing.T, rows []least) {
	t.Helper()
	for _, row := range rows {
		lo, _ := new(big.Int).SetString(row.lo, 16)
		s := row.call.span(t, row.bits)
		if toBig(s.Lo).Cmp(lo) != 0 || toBig(s.Hi).Cmp(lo.Add(lo, big.NewInt(1))) != 0 {
			t.Errorf("%s: it is %v and must begin at %s", row.call.name, s, row.lo)
		}
	}
}

// meets: what is made of the first two and the third one have something in common.
func meets(t *testing.T, what string, x, y, z api.Span, made func(a, b api.Span) (api.Span, api.Errno)) {
	t.Helper()
	s, e := made(x, y)
	if _, f := span.Meet(s, z); e != api.OK || f != api.OK {
		t.Errorf("%s: %v and %v do not meet", what, s, z)
	}
}

// just one ratio, as near as a span can tell.
func just(r api.Ratio, bits int) api.Span {
	s, _ := span.Of(r, bits)
	return s
}

// whole number as a span.
func whole(n, bits int) api.Span { return just(ratio(n, 1), bits) }

// unitSpan: from 0 to the last bit.
func unitSpan(bits int) api.Span {
	s := whole(0, bits)
	s.Hi.Digits = []uint16{1}
	return s
}

// topSpan: from the last bit below 1 to 1.
func topSpan(bits int) api.Span {
	s, _ := span.Sub(whole(1, bits), unitSpan(bits))
	return s
}

// is: a call answers just this span.
func (c call) is(t *testing.T, want api.Span) {
	t.Helper()
	if s := c.span(t, want.Bits); !same(s, want) {
		t.Errorf("%s by %d bits: it is %v and must be %v", c.name, want.Bits, s, want)
	}
}

// within: no end of a span is beyond two whole numbers.
func within(t *testing.T, c call, bits, from, to int) {
	t.Helper()
	lo, hi := ends(c.span(t, bits))
	if lo.Cmp(rat(ratio(from, 1))) < 0 || hi.Cmp(rat(ratio(to, 1))) > 0 {
		t.Errorf("%s by %d bits: from %v to %v", c.name, bits, lo, hi)
	}
}

// ordered: all of the first one's span is less than all of the second one's (-1), or more (1).
func ordered(t *testing.T, a, b call, bits, want int) {
	t.Helper()
	if got, e := span.Order(a.span(t, bits), b.span(t, bits)); got != want || e != api.OK {
		t.Errorf("%s and %s: %d, error %v", a.name, b.name, got, e)
	}
}
