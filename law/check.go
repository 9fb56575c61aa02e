package law

import (
	"tailsure/api"
	"tailsure/ratio"
)

// leastScale is 1 over how small B may be, of laws that are made with it.
const leastScale = 100

// Check a law.
func Check(l api.Law) api.Errno {
	switch {
	case l.Kind < api.LawNormal || l.Kind > api.LawRare:
		return api.ErrKind
	case !ratio.Right(l.A) || !ratio.Right(l.B):
		return api.ErrRange
	case madeOfOne(l.Kind) && l.B != (api.Ratio{Num: 0, Den: 1}): // 0 over 2 is 0 too, but not of the form
		return api.ErrForm
	case !asSaid(l):
		return api.ErrRange
	case tooFar(l):
		return api.ErrMany
	}
	return api.OK
}

// madeOfOne: is a law of this kind made of A alone?
func madeOfOne(kind int) bool {
	return kind == api.LawWait || kind == api.LawStudent || kind == api.LawRare
}

// asSaid: are A and B, which are right, as package api says?
func asSaid(l api.Law) bool {
	switch l.Kind {
	case api.LawNormal:
		return l.B.Num > 0
	case api.LawGamma, api.LawBeta:
		return l.A.Num > 0 && l.B.Num > 0
	case api.LawCount:
		return l.A.Den == 1 && l.A.Num >= 0 && l.A.Num <= api.MaxCount && l.B.Num >= 0 && l.B.Num <= l.B.Den
	}
	return l.A.Num > 0
}

// tooFar: is A, or B, of a law that is as package api says, beyond what is reckoned with?
func tooFar(l api.Law) bool {
	if l.Kind == api.LawCount { // it has its own limits
		return false
	}
	tooSmall := !madeOfOne(l.Kind) && l.B.Num*leastScale < l.B.Den
	return tooSmall || !ratio.Within(l.A, api.MaxGamma) || !ratio.Within(l.B, api.MaxGamma)
}
