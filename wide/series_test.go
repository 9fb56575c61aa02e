package wide

import (
	"testing"

	"tailsure/api"
	"tailsure/num"
)

// TestRisingGoesOnUntilItsTurn: 1, 8, 64, 512, and a fourth of it again and again: 585, and less than 171 more.
func TestRisingGoesOnUntilItsTurn(t *testing.T) {
	first := api.Span{Lo: num.Of(1), Hi: num.Of(1), Bits: 20}
	s := rising(first, 3, func(last api.Span, n int) api.Span {
		if n <= 3 {
			return Times(last, 8)
		}
		return Over(last, 4)
	})
	if num.Cmp(s.Lo, num.Of(585+170)) > 0 || num.Cmp(s.Hi, num.Of(585+171)) < 0 || num.Cmp(num.Sub(s.Hi, s.Lo), num.Of(9)) > 0 {
		t.Errorf("it is %v", s)
	}
}
