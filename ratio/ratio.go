// Package ratio: what the layers ask of ratios and of bits that are handed to them.
package ratio

import "tailsure/api"

// Fault of bits and of some ratios: ErrRange, if one of them is not right.
func Fault(bits int, ratios ...api.Ratio) api.Errno {
	if bits < api.MinBits || bits > api.MaxBits {
		return api.ErrRange
	}
	for _, r := range ratios {
		if !Right(r) {
			return api.ErrRange
		}
	}
	return api.OK
}

// Right: Num is from -MaxNum to MaxNum, and Den from 1 to MaxDen.
func Right(r api.Ratio) bool {
	return r.Num >= -api.MaxNum && r.Num <= api.MaxNum && r.Den >= 1 && r.Den <= api.MaxDen
}

// Within: is a ratio, which is right, from -n to n?
func Within(r api.Ratio, n int) bool { return r.Num >= -n*r.Den && r.Num <= n*r.Den }

// ShapeFault of some ratios, which are right, as shapes of the gamma and the beta function: ErrNone, if one is not more than 0; else ErrMany, if one is more than MaxGamma.
func ShapeFault(ratios ...api.Ratio) api.Errno {
	e := api.OK
	for _, r := range ratios {
		switch {
		case r.Num <= 0:
			return api.ErrNone
		case !Within(r, api.MaxGamma):
			e = api.ErrMany
		}
	}
	return e
}
