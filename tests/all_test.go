package tests

import (
	"math"
	"slices"
	"testing"

	"tailsure/api"
	"tailsure/quantile"
)

// odd numbers to hand in.
var odd = []int{math.MinInt, math.MinInt + 1, -api.MaxNum - 1, -api.MaxNum, -1, 0, 1, 16, 17, 1024, 1025, api.MaxNum, api.MaxNum + 1, 1 << 32, math.MaxInt}

// ends: a call ends, with a span that is as it must be, or with one of these errors and nothing beside it.
func (c call) ends(t *testing.T, bits int, errors ...api.Errno) {
	t.Helper()
	switch _, e := c.make(bits); {
	case e == api.OK:
		c.span(t, bits)
	case slices.Contains(errors, e):
		c.refuses(t, bits, e)
	default:
		t.Errorf("%s: there is no error %v here", c.name, e)
	}
}

// TestP1: whatever is handed in, each call ends without a panic, and beside an error there is nothing.
func TestP1(t *testing.T) {
	t.Parallel()
	for _, n := range odd {
		for _, d := range odd {
			for i, bits := range []int{math.MinInt, -1, 0, 7, 8, 120, 121, math.MaxInt} {
				r, k := ratio(n, d), ratio(odd[(i+3)%len(odd)], odd[(i*5+6)%len(odd)])
				for _, c := range append(every(r, k), every(k, r)...) {
					c.ends(t, bits, api.ErrRange, api.ErrMany, api.ErrNone)
				}
				for _, c := range append(everyLaw(r, k), everyLaw(k, r)...) {
					c.ends(t, bits, api.ErrKind, api.ErrRange, api.ErrForm, api.ErrMany)
				}
			}
		}
	}
}

// TestP1HowFar: likewise; beside an error there is 0.
func TestP1HowFar(t *testing.T) {
	for i, n := range odd {
		for k, d := range odd {
			p, r := ratio(n, d), ratio(odd[(i+2*k)%len(odd)], odd[(i*5+k)%len(odd)])
			steps, bits := []int{n, k % 9, 0}[k%3], []int{d, i * 10, 30}[(i+k)%3]
			for _, l := range []api.Law{lawOf(n, r, p), lawOf(k%9, ratio(7, 1), p), lawOf(k%9, ratio(7, 1), zero), lawOf(i%9, r, zero), lawOf(i%9, ratio(9, 1), ratio(1, 3))} {
				far, e := quantile.Quantile(l, p, steps, bits)
				if !slices.Contains([]api.Errno{api.OK, api.ErrKind, api.ErrRange, api.ErrForm, api.ErrMany}, e) || e != api.OK && far != 0 {
					t.Errorf("Quantile %v %v %d %d: %d, error %v", l, p, steps, bits, far, e)
				}
				if far, e := quantile.Median(l, steps, bits); e != api.OK && far != 0 {
					t.Errorf("Median %v %d %d: %d, error %v", l, steps, bits, far, e)
				}
			}
		}
	}
}

// spoil all of a list, its spare room too.
func spoil(l []uint16) {
	for i := range l[:cap(l)] {
		l[:cap(l)][i] ^= 0x5a5a
	}
}

// TestP2P3: an answer is the caller's alone, and the same the next time.
func TestP2P3(t *testing.T) {
	t.Parallel()
	for _, r := range []api.Ratio{ratio(1, 1), ratio(9, 4), ratio(15, 7), ratio(16, 1)} {
		for _, k := range []api.Ratio{ratio(1, 2), ratio(-3, 1), ratio(1, 3)} {
			for _, c := range append(every(r, k), everyLaw(r, ratio(1, 3))...) {
				first, _ := c.make(90)
				was := first
				was.Lo.Digits, was.Hi.Digits = slices.Clone(first.Lo.Digits), slices.Clone(first.Hi.Digits)
				spoil(first.Lo.Digits)
				if !slices.Equal(first.Hi.Digits, was.Hi.Digits) {
					t.Errorf("%s: both lists of the answer share memory", c.name)
				}
				spoil(first.Hi.Digits)
				for _, d := range every(k, r) {
					d.make(33)
				}
				if again, _ := c.make(90); !same(again, was) {
					t.Errorf("%s: it is %v the second time, and was %v", c.name, again, was)
				}
			}
		}
	}
}
