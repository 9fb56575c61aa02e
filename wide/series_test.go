package wide

import (
	"testing"

	"tailsure/api"
	"tailsure/num"
)

// TestRisingGoesOnUntilItsTurn: 1, 8, 64, 512, and a fourth of it again and again: 585, and less than 171 more.
func TestRisingGoesOnUntilItsTurn(t *testing.T) {
	first := api.Span{Lo: num.Of(1), Hi: num.Of(1), Bits: 20}
	s := rising(first, 3, func(last api.Span, n int) api.Span {
		if n <= 3 {
			return Times(last, 8)
		}
		return Over(last, 4)
	})
	if num.Cmp(s.Lo, num.Of(585+170)) > 0 || num.Cmp(s.Hi, num.Of(585+171)) < 0 || num.Cmp(num.Sub(s.Hi, s.Lo), num.Of(15)) > 0 {
		t.Errorf("it is %v", s)
	}
}

// TestRisingThatFallsSlowly: a number and three quarters of it again and again are four times the number.
func TestRisingThatFallsSlowly(t *testing.T) {
	for n := 0; n < 200; n++ {
		first := api.Span{Lo: num.Of(n), Hi: num.Of(n), Bits: 20}
		s := rising(first, 0, func(last api.Span, n int) api.Span { return Scale(last, num.Of(3), num.Of(4)) })
		if num.Cmp(s.Lo, num.Of(4*n)) > 0 || num.Cmp(s.Hi, num.Of(4*n)) < 0 || num.Cmp(num.Sub(s.Hi, s.Lo), num.Of(120)) > 0 {
			t.Errorf("of %d it is %v", n, s)
		}
	}
}
