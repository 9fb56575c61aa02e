package span_test

import (
	"math"
	"slices"
	"testing"

	"tailsure/api"
	"tailsure/num"
	"tailsure/span"
)

// every call of package span that answers a span, of two spans that are by the same bits.
func every() []call {
	return append(calls(),
		call{"To fewer", func(a, b api.Span) (api.Span, api.Errno) { return span.To(a, a.Bits-1) }},
		call{"To as many", func(a, b api.Span) (api.Span, api.Errno) { return span.To(a, a.Bits) }},
		call{"To more", func(a, b api.Span) (api.Span, api.Errno) { return span.To(a, a.Bits+16) }},
		call{"Root", func(a, b api.Span) (api.Span, api.Errno) { return span.Root(a) }},
		call{"Of", func(a, b api.Span) (api.Span, api.Errno) { return span.Of(api.Ratio{Num: 7, Den: 1}, a.Bits) }},
		call{"Order", func(a, b api.Span) (api.Span, api.Errno) { _, e := span.Order(a, b); return api.Span{}, e }},
		call{"Narrow", func(a, b api.Span) (api.Span, api.Errno) { _, e := span.Narrow(a, 4); return api.Span{}, e }},
		call{"Check", func(a, b api.Span) (api.Span, api.Errno) { return api.Span{}, span.Check(a) }},
	)
}

// TestP1: whatever is handed in, each call ends without a panic, and beside an error there is nothing.
func TestP1(t *testing.T) {
	var numbers []num.Int
	for _, neg := range []bool{false, true} {
		for _, l := range [][]uint16{nil, {}, {0}, {1}, {0, 0}, {1, 0}, {65535, 65535, 65535}, make([]uint16, 251), make([]uint16, 3000)} {
			numbers = append(numbers, num.Int{Neg: neg, Digits: l})
		}
		wide := make([]uint16, 250)
		wide[249] = 65535
		numbers = append(numbers, num.Int{Neg: neg, Digits: wide}, num.Int{Neg: neg, Digits: append(slices.Clone(wide), 1)})
	}
	var spans []api.Span
	for i, lo := range numbers {
		for k, hi := range numbers {
			bits := []int{math.MinInt, 0, 1, 8, 8, 8, 8, 120, 121, math.MaxInt}[(i+3*k)%10]
			spans = append(spans, api.Span{Lo: lo, Hi: hi, Bits: bits})
		}
	}
	for i, a := range spans {
		b := spans[(i*7+3)%len(spans)]
		for _, c := range every() {
			if got, e := c.make(a, b); e < api.OK || e > api.ErrKind || e != api.OK && !same(got, api.Span{}) {
				t.Errorf("%s: error %v, and beside it %v", c.name, e, got)
			}
		}
	}
}

// roomy: a number whose list has spare room behind it, which is full of marks.
func roomy(n int) num.Int {
	a := num.Of(n)
	l := append(make([]uint16, 0, 64), a.Digits...)
	for i := len(l); i < cap(l); i++ {
		l[:cap(l)][i] = 0xabcd
	}
	return num.Int{Neg: a.Neg, Digits: l}
}

func roomySpan(lo, hi int) api.Span { return api.Span{Lo: roomy(lo), Hi: roomy(hi), Bits: 20} }

// kept: the lists of a span, with their spare room, copied.
func kept(s api.Span) [][]uint16 {
	return [][]uint16{slices.Clone(s.Lo.Digits[:cap(s.Lo.Digits)]), slices.Clone(s.Hi.Digits[:cap(s.Hi.Digits)])}
}

// scribble over the lists of a span, and their spare room.
func scribble(l []uint16) {
	for i := range l[:cap(l)] {
		l[:cap(l)][i] ^= 0x5a5a
	}
}

func equal(a, b [][]uint16) bool { return slices.EqualFunc(a, b, slices.Equal[[]uint16]) }

func TestP2(t *testing.T) {
	pairs := [][4]int{{1 << 40, 1 << 41, 1 << 40, 1 << 41}, {5, 9, 3, 7}, {0, 0, 1, 1}, {-9, -9, -9, -9}, {-1 << 50, 1 << 50, 3, 1 << 30}, {7, 7, 7, 8}}
	for _, p := range pairs {
		for _, c := range every() {
			a, b := roomySpan(p[0], p[1]), roomySpan(p[2], p[3])
			wasA, wasB := kept(a), kept(b)
			got, _ := c.make(a, b)
			if !equal(kept(a), wasA) || !equal(kept(b), wasB) {
				t.Errorf("%s of %v changes what it is handed", c.name, p)
			}
			was := kept(got)
			for _, l := range [][]uint16{a.Lo.Digits, a.Hi.Digits, b.Lo.Digits, b.Hi.Digits} {
				scribble(l)
			}
			if !equal(kept(got), was) {
				t.Errorf("%s of %v keeps what it is handed", c.name, p)
			}
			scribble(got.Lo.Digits)
			if !slices.Equal(kept(got)[1], was[1]) {
				t.Errorf("%s of %v: both lists of the answer share memory", c.name, p)
			}
		}
	}
}

// TestP2OneListTwice: what comes in may be the same list at both ends, and in both spans.
func TestP2OneListTwice(t *testing.T) {
	for _, c := range every() {
		n := roomy(1 << 35)
		s := api.Span{Lo: n, Hi: n, Bits: 20}
		was := kept(s)
		got, e := c.make(s, s)
		if e != api.OK || !equal(kept(s), was) {
			t.Errorf("%s: error %v, or what is handed in is changed", c.name, e)
		}
		hi := slices.Clone(got.Hi.Digits)
		scribble(got.Lo.Digits)
		if !slices.Equal(got.Hi.Digits, hi) || !equal(kept(s), was) {
			t.Errorf("%s: lists share memory", c.name)
		}
	}
}

// TestP3: the same again, whatever was done to an earlier answer.
func TestP3(t *testing.T) {
	a, b := of(-70000, 1<<40, 20), of(3, 1<<33, 20)
	for _, c := range every() {
		first, e := c.make(a, b)
		lo, hi := toBig(first.Lo), toBig(first.Hi)
		scribble(first.Lo.Digits)
		scribble(first.Hi.Digits)
		for _, d := range every() {
			d.make(b, a)
		}
		again, f := c.make(a, b)
		if e != f || toBig(again.Lo).Cmp(lo) != 0 || toBig(again.Hi).Cmp(hi) != 0 || again.Bits != first.Bits {
			t.Errorf("%s: it is %v, %v the second time", c.name, again, f)
		}
	}
}
