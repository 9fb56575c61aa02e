// Package span: spans: see doc/01-span.md.
package span

import (
	"tailsure/api"
	"tailsure/num"
	"tailsure/ratio"
	"tailsure/wide"
)

// maxNarrow is the greatest n that one may ask Narrow for.
const maxNarrow = 1000000

// Check a span.
func Check(s api.Span) api.Errno {
	switch {
	case s.Bits < 1 || s.Bits > api.MaxBits:
		return api.ErrRange
	case !num.IsRight(s.Lo) || !num.IsRight(s.Hi):
		return api.ErrForm
	case num.Len(s.Lo) > api.MaxWide || num.Len(s.Hi) > api.MaxWide:
		return api.ErrMany
	case num.Cmp(s.Lo, s.Hi) > 0:
		return api.ErrState
	}
	return api.OK
}

// fault of some spans: what Check says of the first one that it says something of; else ErrState, if they are not by the same bits.
func fault(spans ...api.Span) api.Errno {
	for _, s := range spans {
		if e := Check(s); e != api.OK {
			return e
		}
	}
	for _, s := range spans {
		if s.Bits != spans[0].Bits {
			return api.ErrState
		}
	}
	return api.OK
}

// fit: a span as it is, if Check has nothing against it.
func fit(s api.Span) (api.Span, api.Errno) {
	if e := Check(s); e != api.OK {
		return api.Span{}, e
	}
	return s, api.OK
}

// made of some spans, which are right and by the same bits, unless what comes is too wide.
func made(how func() (api.Span, api.Errno), spans ...api.Span) (api.Span, api.Errno) {
	if e := fault(spans...); e != api.OK {
		return api.Span{}, e
	}
	s, e := how()
	if e != api.OK {
		return api.Span{}, e
	}
	return fit(s)
}

// Of a ratio.
func Of(r api.Ratio, bits int) (api.Span, api.Errno) {
	if e := ratio.Fault(bits, r); e != api.OK {
		return api.Span{}, e
	}
	return wide.Of(num.Of(r.Num), num.Of(r.Den), bits), api.OK
}

// To other bits.
func To(s api.Span, bits int) (api.Span, api.Errno) {
	return made(func() (api.Span, api.Errno) {
		if e := ratio.Fault(bits); e != api.OK {
			return api.Span{}, e
		}
		return wide.To(s, bits), api.OK
	}, s)
}

// Add two.
func Add(a, b api.Span) (api.Span, api.Errno) {
	return made(func() (api.Span, api.Errno) { return wide.Add(a, b), api.OK }, a, b)
}

// Sub: the first one less the second one.
func Sub(a, b api.Span) (api.Span, api.Errno) {
	return made(func() (api.Span, api.Errno) { return wide.Sub(a, b), api.OK }, a, b)
}

// Mul two.
func Mul(a, b api.Span) (api.Span, api.Errno) {
	return made(func() (api.Span, api.Errno) { return wide.Mul(a, b), api.OK }, a, b)
}

// Div: the first one over the second one.
func Div(a, b api.Span) (api.Span, api.Errno) {
	return made(func() (api.Span, api.Errno) {
		if num.Sign(b.Lo) <= 0 && num.Sign(b.Hi) >= 0 {
			return api.Span{}, api.ErrNone
		}
		return wide.Div(a, b), api.OK
	}, a, b)
}

// Root of one.
func Root(a api.Span) (api.Span, api.Errno) {
	return made(func() (api.Span, api.Errno) {
		if num.Sign(a.Lo) < 0 {
			return api.Span{}, api.ErrNone
		}
		return wide.Root(a), api.OK
	}, a)
}

// Meet of two.
func Meet(a, b api.Span) (api.Span, api.Errno) {
	return made(func() (api.Span, api.Errno) {
		s := api.Span{Lo: wide.Most(a.Lo, b.Lo), Hi: wide.Least(a.Hi, b.Hi), Bits: a.Bits}
		if num.Cmp(s.Lo, s.Hi) > 0 {
			return api.Span{}, api.ErrNone
		}
		return s, api.OK
	}, a, b)
}

// Hull of two.
func Hull(a, b api.Span) (api.Span, api.Errno) {
	return made(func() (api.Span, api.Errno) {
		return api.Span{Lo: wide.Least(a.Lo, b.Lo), Hi: wide.Most(a.Hi, b.Hi), Bits: a.Bits}, api.OK
	}, a, b)
}

// Order of two.
func Order(a, b api.Span) (int, api.Errno) {
	if e := fault(a, b); e != api.OK {
		return 0, e
	}
	switch {
	case num.Cmp(a.Hi, b.Lo) < 0:
		return -1, api.OK
	case num.Cmp(a.Lo, b.Hi) > 0:
		return 1, api.OK
	}
	return 0, api.OK
}

// Narrow by n?
func Narrow(a api.Span, n int) (bool, api.Errno) {
	if e := fault(a); e != api.OK {
		return false, e
	}
	if n < 0 || n > maxNarrow {
		return false, api.ErrRange
	}
	return wide.Narrow(a, n), api.OK
}
