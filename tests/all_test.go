package tests

import (
	"math"
	"slices"
	"testing"

	"tailsure/api"
)

// TestP1: whatever is handed in, each call ends without a panic, and beside an error there is nothing.
func TestP1(t *testing.T) {
	odd := []int{math.MinInt, math.MinInt + 1, -api.MaxNum - 1, -api.MaxNum, -1, 0, 1, 16, 17, 1024, 1025, api.MaxNum, api.MaxNum + 1, 1 << 32, math.MaxInt}
	for _, n := range odd {
		for _, d := range odd {
			for i, bits := range []int{math.MinInt, -1, 0, 7, 8, 120, 121, math.MaxInt} {
				k := ratio(odd[(i+3)%len(odd)], odd[(i*5+6)%len(odd)])
				for _, c := range append(every(ratio(n, d), k), every(k, ratio(n, d))...) {
					switch _, e := c.make(bits); e {
					case api.OK:
						c.span(t, bits)
					case api.ErrRange, api.ErrMany, api.ErrNone:
						c.refuses(t, bits, e)
					default:
						t.Errorf("%s: there is no error %v here", c.name, e)
					}
				}
			}
		}
	}
}

// spoil all of a list, its spare room too.
func spoil(l []uint16) {
	for i := range l[:cap(l)] {
		l[:cap(l)][i] ^= 0x5a5a
	}
}

// TestP2P3: an answer is the caller's alone, and the same the next time.
func TestP2P3(t *testing.T) {
	for _, r := range []api.Ratio{ratio(1, 1), ratio(9, 4), ratio(15, 7), ratio(16, 1)} {
		for _, k := range []api.Ratio{ratio(1, 2), ratio(-3, 1), ratio(1, 3)} {
			for _, c := range every(r, k) {
				first, _ := c.make(90)
				was := first
				was.Lo.Digits, was.Hi.Digits = slices.Clone(first.Lo.Digits), slices.Clone(first.Hi.Digits)
				spoil(first.Lo.Digits)
				if !slices.Equal(first.Hi.Digits, was.Hi.Digits) {
					t.Errorf("%s: both lists of the answer share memory", c.name)
				}
				spoil(first.Hi.Digits)
				for _, d := range every(k, r) {
					d.make(33)
				}
				if again, _ := c.make(90); !same(again, was) {
					t.Errorf("%s: it is %v the second time, and was %v", c.name, again, was)
				}
			}
		}
	}
}
