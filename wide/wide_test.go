package wide_test

import (
	"slices"
	"testing"

	"tailsure/api"
	"tailsure/num"
	"tailsure/wide"
)

func of(lo, hi, bits int) api.Span { return api.Span{Lo: num.Of(lo), Hi: num.Of(hi), Bits: bits} }

// overlap: have both a number in common?
func overlap(a, b api.Span) bool {
	return a.Bits == b.Bits && num.Cmp(a.Lo, b.Hi) <= 0 && num.Cmp(b.Lo, a.Hi) <= 0
}

func TestLeastAndMostAreCopies(t *testing.T) {
	n := num.Of(1 << 40)
	for _, pick := range []func(...num.Int) num.Int{wide.Least, wide.Most} {
		got := pick(n, n)
		got.Digits[0] = 7
		if n.Digits[0] == 7 {
			t.Error("what was handed in is changed")
		}
		if got := pick(); num.Sign(got) != 0 {
			t.Errorf("of none: %v", got)
		}
	}
	if got := wide.Least(num.Of(3), num.Of(-9), num.Of(5)); num.Cmp(got, num.Of(-9)) != 0 {
		t.Errorf("Least: %v", got)
	}
	if got := wide.Most(num.Of(-3), num.Of(9), num.Of(5)); num.Cmp(got, num.Of(9)) != 0 {
		t.Errorf("Most: %v", got)
	}
}

func TestMoreBitsThanSpansMayHave(t *testing.T) {
	third := wide.Of(num.Of(1), num.Of(3), 1000)
	three := wide.Of(num.Of(3), num.Of(1), 1000)
	one := wide.Of(num.Of(1), num.Of(1), 1000)
	for name, s := range map[string]api.Span{
		"Mul": wide.Mul(third, three), "Div": wide.Div(third, third), "Times": wide.Times(third, 3),
		"Sub": wide.Sub(wide.Add(one, third), third), "Over": wide.Over(three, 3), "Root": wide.Mul(wide.Root(third), wide.Root(three)),
	} {
		if !overlap(s, one) || num.Len(num.Sub(s.Hi, s.Lo)) > 5 {
			t.Errorf("%s: %v", name, s)
		}
	}
}

// TestExpOfWideSpans: all of a span goes into its power, also where it has numbers of both signs.
func TestExpOfWideSpans(t *testing.T) {
	const bits = 100
	point := func(n int) api.Span { return wide.Of(num.Of(n), num.Of(10), bits) }
	for lo := -30; lo <= 30; lo += 6 {
		for hi := lo; hi <= 30; hi += 6 {
			s := wide.Exp(api.Span{Lo: point(lo).Lo, Hi: point(hi).Hi, Bits: bits})
			a, b := wide.Exp(point(lo)), wide.Exp(point(hi))
			if num.Cmp(s.Lo, a.Hi) > 0 || num.Cmp(s.Hi, b.Lo) < 0 {
				t.Errorf("from %d to %d: %v", lo, hi, s)
			}
		}
	}
}

// TestExpIsNotBelowNothing: a power is never below 0, so what is made of it need not care.
func TestExpIsNotBelowNothing(t *testing.T) {
	if s := wide.Exp(wide.Of(num.Of(-100000), num.Of(1), 60)); num.Sign(s.Lo) < 0 || num.Len(s.Hi) > 1 {
		t.Errorf("it is %v", s)
	}
}

// TestExpAndLogUndoEachOther, by many bits.
func TestExpAndLogUndoEachOther(t *testing.T) {
	for _, bits := range []int{40, 200, 700} {
		for _, n := range []int{1, 2, 3, 4, 5, 7, 1000, 123456} {
			s := wide.Exp(wide.Log(num.Of(n), num.Of(12), bits))
			if !overlap(s, wide.Of(num.Of(n), num.Of(12), bits)) || num.Len(num.Sub(s.Hi, s.Lo)) > 36 {
				t.Errorf("%d over 12 by %d bits: %v", n, bits, s)
			}
		}
	}
}

// TestLogOfGreatNumbers: 2 to the power of 2000, over 3 to the power of 1000.
func TestLogOfGreatNumbers(t *testing.T) {
	three := num.Of(1)
	for range 1000 {
		three = num.Mul(three, num.Of(3))
	}
	got := wide.Log(num.Up(num.Of(1), 2000), three, 90)
	want := wide.Times(wide.Log(num.Of(4), num.Of(3), 90), 1000)
	if !overlap(got, want) || num.Len(num.Sub(got.Hi, got.Lo)) > 20 {
		t.Errorf("it is %v and must be %v", got, want)
	}
}

// TestSureEndsWhereNoTryTells: 1, never made without a rest.
func TestSureEndsWhereNoTryTells(t *testing.T) {
	s := wide.Sure(20, func(bits int) api.Span {
		one := wide.Of(num.Of(1), num.Of(1), bits)
		return wide.Add(one, of(-1, 1, bits))
	})
	if !slices.Equal(s.Lo.Digits, num.Of(1<<20-1).Digits) || !slices.Equal(s.Hi.Digits, num.Of(1<<20+1).Digits) || s.Bits != 20 {
		t.Errorf("it is %v", s)
	}
}

// TestSureTakesMoreBits, until what is made is narrow.
func TestSureTakesMoreBits(t *testing.T) {
	most := 0
	s := wide.Sure(20, func(bits int) api.Span {
		most = max(most, bits)
		third := wide.Of(num.Of(1), num.Of(3), bits)
		return wide.Add(third, api.Span{Lo: num.Neg(num.Up(num.Of(1), 300)), Hi: num.Up(num.Of(1), 300), Bits: bits})
	})
	if third := wide.Of(num.Of(1), num.Of(3), 20); num.Cmp(s.Lo, third.Lo) != 0 || num.Cmp(s.Hi, third.Hi) != 0 || most < 320 {
		t.Errorf("it is %v, by %d bits", s, most)
	}
}

// TestSureIsNarrowAtLast, however many tries were in vain.
func TestSureIsNarrowAtLast(t *testing.T) {
	tries := 0
	s := wide.Sure(20, func(bits int) api.Span {
		rest := bits - 10
		if tries++; tries > 6 {
			rest = 0
		}
		third := wide.Of(num.Of(1), num.Of(3), bits)
		return wide.Add(third, api.Span{Lo: num.Of(0), Hi: num.Up(num.Of(1), rest), Bits: bits})
	})
	if !wide.Narrow(s, 4) {
		t.Errorf("after %d tries it is %v", tries, s)
	}
}
