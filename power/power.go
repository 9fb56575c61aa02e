// Package power: powers and logarithms: see doc/02-power.md.
package power

import (
	"tailsure/api"
	"tailsure/num"
	"tailsure/ratio"
	"tailsure/wide"
)

// Limits of Pow: a ratio from 1 over maxBase to maxBase, to the power of one from -maxPower to maxPower.
const (
	maxBase  = 16
	maxPower = 100
)

func of(r api.Ratio, bits int) api.Span { return wide.Of(num.Of(r.Num), num.Of(r.Den), bits) }

func log(r api.Ratio, bits int) api.Span { return wide.Log(num.Of(r.Num), num.Of(r.Den), bits) }

// Exp of a ratio.
func Exp(r api.Ratio, bits int) (api.Span, api.Errno) {
	if e := ratio.Fault(bits, r); e != api.OK {
		return api.Span{}, e
	}
	if !ratio.Within(r, api.MaxExp) {
		return api.Span{}, api.ErrMany
	}
	return wide.Sure(bits, func(bits int) api.Span { return wide.Exp(of(r, bits)) }), api.OK
}

// Log of a ratio.
func Log(r api.Ratio, bits int) (api.Span, api.Errno) {
	if e := ratio.Fault(bits, r); e != api.OK {
		return api.Span{}, e
	}
	if r.Num <= 0 {
		return api.Span{}, api.ErrNone
	}
	return wide.Sure(bits, func(bits int) api.Span { return log(r, bits) }), api.OK
}

// Pow: a ratio to the power of another one.
func Pow(r, k api.Ratio, bits int) (api.Span, api.Errno) {
	if e := ratio.Fault(bits, r, k); e != api.OK {
		return api.Span{}, e
	}
	if r.Num <= 0 {
		return api.Span{}, api.ErrNone
	}
	if !ratio.Within(r, maxBase) || r.Num*maxBase < r.Den || !ratio.Within(k, maxPower) {
		return api.Span{}, api.ErrMany
	}
	if s, ok := exact(r, k, bits); ok {
		return s, api.OK
	}
	return wide.Sure(bits, func(bits int) api.Span {
		return wide.Exp(wide.Mul(of(k, bits), log(r, bits)))
	}), api.OK
}
