package tests

import (
	"fmt"
	"math"
	"math/big"
	"testing"

	"tailsure/api"
	"tailsure/span"
)

// hull of two spans.
func hull(a, b api.Span) api.Span {
	s, _ := span.Hull(a, b)
	return s
}

// inside: has the second span all of the first one?
func inside(a, b api.Span) bool { return same(hull(a, b), b) }

// TestWholeSpans: what two numbers make is in what two spans make that have them; less is made of less.
func TestWholeSpans(t *testing.T) {
	made := map[string]struct {
		spans func(a, b api.Span) (api.Span, api.Errno)
		rats  func(z, x, y *big.Rat) *big.Rat
	}{"Add": {span.Add, (*big.Rat).Add}, "Sub": {span.Sub, (*big.Rat).Sub}, "Mul": {span.Mul, (*big.Rat).Mul}, "Div": {span.Div, (*big.Rat).Quo}}
	for n := 0; n < 60; n++ {
		bits := api.MinBits + n*31%113
		x, y := ratio(n*77%101-50, 7), ratio(3+n*5%11, 1+n%9)
		a, b := just(x, bits), just(y, bits)
		moreA, moreB := hull(a, just(ratio(n-30, 3), bits)), hull(b, just(ratio(n+1, 4), bits))
		for name, m := range made {
			less, e := m.spans(a, b)
			more, f := m.spans(moreA, moreB)
			if e != api.OK || f != api.OK || !inside(less, more) {
				t.Errorf("%s of %v and %v: %v is not in %v (errors %v, %v)", name, x, y, less, more, e, f)
			}
			lo, hi := ends(less)
			if z := m.rats(new(big.Rat), rat(x), rat(y)); lo.Cmp(z) > 0 || hi.Cmp(z) < 0 {
				t.Errorf("%s of %v and %v: %v is not in %v", name, x, y, z, less)
			}
		}
	}
}

// TestWholePowers: the power of a sum is the product of the powers; the error function of the opposite is the opposite; the gamma function of what is 1 more is what was that, times it: so far as spans tell.
func TestWholePowers(t *testing.T) {
	for n := 1; n <= 60; n++ {
		bits := api.MinBits + n*31%113
		x, y := ratio(n*77%101-50, 6), ratio(7*n%31-15, 6)
		meets(t, fmt.Sprint("Exp ", x, y), exp(x).span(t, bits), exp(y).span(t, bits), exp(ratio(x.Num+y.Num, 6)).span(t, bits), span.Mul)
		meets(t, fmt.Sprint("Erf ", x), whole(0, bits), erf(x).span(t, bits), erf(ratio(-x.Num, 6)).span(t, bits), span.Sub)
		r := ratio(n*n, 60)
		meets(t, fmt.Sprint("Gamma ", r), gammaOf(r).span(t, bits), just(r, bits), gammaOf(ratio(r.Num+60, 60)).span(t, bits), span.Mul)
	}
}

// notLess: the second one's span is not all below the first one's.
func notLess(t *testing.T, bits int, a, b call) {
	t.Helper()
	if o, e := span.Order(b.span(t, bits), a.span(t, bits)); o < 0 || e != api.OK {
		t.Errorf("%s is less than %s", b.name, a.name)
	}
}

// TestWholeParts: both parts are 1 together; with more x the lower one is more.
func TestWholeParts(t *testing.T) {
	t.Parallel()
	for n := 1; n <= 60; n++ {
		bits := api.MinBits + n*31%113
		a, b, x, more := ratio(n*n, 61), ratio(n*77%101+1, 3), ratio(n*19%61, 62), ratio(n*19%61+1, 62)
		meets(t, fmt.Sprint("Lower and Upper ", a, x), lower(a, x).span(t, bits), upperOf(a, x).span(t, bits), whole(1, bits), span.Add)
		meets(t, fmt.Sprint("Part, both ways ", x, a, b), part(x, a, b).span(t, bits), part(otherSide(x), b, a).span(t, bits), whole(1, bits), span.Add)
		notLess(t, bits, lower(a, x), lower(a, more))
		notLess(t, bits, part(x, a, b), part(more, a, b))
		c := ratio(1+n%4, 2) // of small shapes spans tell it for sure
		ordered(t, lower(c, x), lower(c, more), 100, -1)
		ordered(t, part(x, c, ratio(3, 2)), part(more, c, ratio(3, 2)), 100, -1)
	}
}

// TestWholeLaws: with more x it is more likely; both together are 1; what is likely for n and for all below it are the sum.
func TestWholeLaws(t *testing.T) {
	t.Parallel()
	for i, l := range goodLaws {
		for n := -20; n < 40; n++ {
			bits := api.MinBits + (i+n+20)*31%113
			x, more := ratio(n*n*n, 40), ratio(n*n*n+1, 40)
			notLess(t, bits, below(l, x), below(l, more))
			notLess(t, bits, above(l, more), above(l, x))
			meets(t, fmt.Sprint("Below and Above ", l, x), below(l, x).span(t, bits), above(l, x).span(t, bits), whole(1, bits), span.Add)
			if counted(l) {
				meets(t, fmt.Sprint("Below and Mass ", l, n), below(l, ratio(n-1, 1)).span(t, bits), mass(l, n).span(t, bits), below(l, ratio(n, 1)).span(t, bits), span.Add)
			}
		}
	}
}

// TestWholeHowFar: with more p it is not less, but for what may be taken either way.
func TestWholeHowFar(t *testing.T) {
	t.Parallel()
	for i, l := range goodLaws {
		steps, last := i%(api.MaxSteps+1), math.MinInt
		if counted(l) {
			steps = 0
		}
		for n := 0; n <= 32; n++ { // many a law has just these at some n
			got := howFar(t, l, ratio(n, 32), steps, 24)
			if got < last {
				t.Errorf("%v %d over 32: it is %d, and was %d", l, n, got, last)
			}
			last = got
		}
	}
}

// TestExamples of the document.
func TestExamples(t *testing.T) {
	one, half := ratio(1, 1), ratio(1, 2)
	if s := just(ratio(1, 3), 8); toBig(s.Lo).Int64() != 85 || toBig(s.Hi).Int64() != 86 {
		t.Errorf("1 over 3: %v", s)
	}
	exp(zero).has(t, 20, comparedToRatio(rat(one)))
	log(one).has(t, 20, comparedToRatio(rat(zero)))
	between := func(c call, from, to *big.Rat) {
		t.Helper()
		if lo, hi := ends(c.span(t, 40)); lo.Cmp(from) < 0 || hi.Cmp(to) > 0 {
			t.Errorf("%s: from %v to %v", c.name, lo, hi)
		}
	}
	between(erf(one), big.NewRat(8427, 10000), big.NewRat(8428, 10000))
	gammaOf(ratio(5, 1)).has(t, 20, comparedToRatio(big.NewRat(24, 1)))
	between(lower(one, one), big.NewRat(6321, 10000), big.NewRat(6322, 10000))
	part(ratio(1, 4), ratio(2, 1), one).has(t, 20, comparedToRatio(big.NewRat(1, 16)))
	two := lawOf(api.LawCount, ratio(2, 1), half)
	below(two, one).has(t, 20, comparedToRatio(big.NewRat(3, 4)))
	mass(two, 1).has(t, 20, comparedToRatio(big.NewRat(1, 2)))
	if n := howFar(t, lawOf(api.LawCount, ratio(3, 1), half), ratio(3, 5), 0, 20); n != 2 {
		t.Errorf("of three coins: %d", n)
	}
}
