package law

import (
	"tailsure/api"
	"tailsure/num"
	"tailsure/wide"
)

// just: how likely it is, by LawCount or LawRare, that just n comes.
func just(l api.Law, n, bits int) api.Span {
	switch {
	case n < 0 || l.Kind == api.LawCount && n > l.A.Num:
		return never(bits)
	case l.Kind == api.LawCount:
		return wide.Of(ways(l, n), wide.Raised(l.B.Den, l.A.Num), bits)
	}
	return wide.RareOne(l.A, n, bits)
}

// count: how likely it is, by LawCount, that at most last comes.
func count(l api.Law, last, bits int) api.Span {
	sum := num.Of(0)
	for n := range min(last, l.A.Num) + 1 {
		sum = num.Add(sum, ways(l, n))
	}
	return wide.Of(sum, wide.Raised(l.B.Den, l.A.Num), bits)
}

// ways: in how many of B's Den to the power of A ways just n comes, by LawCount; n is from 0 to A. What is made here is whole all along, since the ways to choose are.
func ways(l api.Law, n int) num.Int {
	others := l.A.Num - n
	out := num.Mul(wide.Raised(l.B.Num, n), wide.Raised(l.B.Den-l.B.Num, others))
	for k := 1; k <= n; k++ {
		out = num.Floor(num.Mul(out, num.Of(others+k)), num.Of(k))
	}
	return out
}

// rare: how likely it is, by LawRare with this mean, that at most last comes.
func rare(mean api.Ratio, last, bits int) api.Span {
	if last < 0 {
		return never(bits)
	}
	return wide.Rare(mean, last, bits)
}
