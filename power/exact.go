package power

import (
	"tailsure/api"
	"tailsure/wide"
)

// exact: r, which is more than 0, to the power of k, if that is a ratio: no series would ever tell that it is just 2, and not nearly 2.
func exact(r, k api.Ratio, bits int) (api.Span, bool) {
	r, k = lowest(r), lowest(k)
	n, whole := root(r.Num, k.Den)
	d, both := root(r.Den, k.Den)
	if !whole || !both {
		return api.Span{}, false
	}
	if k.Num < 0 {
		n, d, k.Num = d, n, -k.Num
	}
	return wide.Of(wide.Raised(n, k.Num), wide.Raised(d, k.Num), bits), true
}

// lowest: the same ratio, in lowest terms.
func lowest(r api.Ratio) api.Ratio {
	a, b := max(r.Num, -r.Num), r.Den
	for b > 0 {
		a, b = b, a%b
	}
	return api.Ratio{Num: r.Num / a, Den: r.Den / a}
}

// root: the whole number whose power of k is n, if there is one.
func root(n, k int) (int, bool) {
	if k == 1 {
		return n, true
	}
	for x := 1; ; x++ {
		if p := bounded(x, k, n); p >= n {
			return x, p == n
		}
	}
}

// bounded: x to the power of k, or some number that is more than n if that is.
func bounded(x, k, n int) int {
	p := 1
	for i := 0; i < k && p <= n; i++ {
		p *= x
	}
	return p
}
