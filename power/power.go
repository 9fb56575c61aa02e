// Package power: powers and logarithms: see doc/02-power.md.
package power

import (
	"tailsure/api"
	"tailsure/num"
	"tailsure/span"
	"tailsure/wide"
)

// Limits of Pow: a ratio from 1 over maxBase to maxBase, to the power of one from -maxPower to maxPower.
const (
	maxBase  = 16
	maxPower = 100
)

// fault of bits and some ratios: what Of of package span, which asks the same of them, has against them.
func fault(bits int, ratios ...api.Ratio) api.Errno {
	for _, r := range ratios {
		if _, e := span.Of(r, bits); e != api.OK {
			return e
		}
	}
	return api.OK
}

// within: is a ratio from -n to n?
func within(r api.Ratio, n int) bool { return r.Num >= -n*r.Den && r.Num <= n*r.Den }

func of(r api.Ratio, bits int) api.Span { return wide.Of(num.Of(r.Num), num.Of(r.Den), bits) }

func log(r api.Ratio, bits int) api.Span { return wide.Log(num.Of(r.Num), num.Of(r.Den), bits) }

// Exp of a ratio.
func Exp(r api.Ratio, bits int) (api.Span, api.Errno) {
	if e := fault(bits, r); e != api.OK {
		return api.Span{}, e
	}
	if !within(r, api.MaxExp) {
		return api.Span{}, api.ErrMany
	}
	return wide.Sure(bits, func(bits int) api.Span { return wide.Exp(of(r, bits)) }), api.OK
}

// Log of a ratio.
func Log(r api.Ratio, bits int) (api.Span, api.Errno) {
	if e := fault(bits, r); e != api.OK {
		return api.Span{}, e
	}
	if r.Num <= 0 {
		return api.Span{}, api.ErrNone
	}
	return wide.Sure(bits, func(bits int) api.Span { return log(r, bits) }), api.OK
}

// Pow: a ratio to the power of another one.
func Pow(r, k api.Ratio, bits int) (api.Span, api.Errno) {
	if e := fault(bits, r, k); e != api.OK {
		return api.Span{}, e
	}
	if r.Num <= 0 {
		return api.Span{}, api.ErrNone
	}
	if !within(r, maxBase) || r.Num*maxBase < r.Den || !within(k, maxPower) {
		return api.Span{}, api.ErrMany
	}
	if s, ok := exact(r, k, bits); ok {
		return s, api.OK
	}
	return wide.Sure(bits, func(bits int) api.Span {
		return wide.Exp(wide.Mul(of(k, bits), log(r, bits)))
	}), api.OK
}
