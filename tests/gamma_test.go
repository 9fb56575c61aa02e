package tests

import (
	"fmt"
	"math"
	"testing"

	"tailsure/api"
	"tailsure/span"
)

// hasGammas: have the spans of both what they must?
func hasGammas(t *testing.T, r api.Ratio, someBits ...int) {
	t.Helper()
	x := gammaAt(rat(r))
	for _, bits := range someBits {
		gammaOf(r).has(t, bits, comparedTo(x))
		logGamma(r).has(t, bits, raisedTo(x))
	}
}

func TestD1(t *testing.T) {
	t.Parallel()
	for _, r := range []api.Ratio{
		ratio(1, 1), ratio(2, 1), ratio(3, 1), ratio(5, 1), ratio(10, 1), ratio(99, 1), ratio(100, 1), ratio(102400, 1024), ratio(102399, 1024),
		ratio(1, 2), ratio(3, 2), ratio(1, 3), ratio(40, 7), ratio(33, 10), ratio(1, 1024), ratio(1023, 1024), ratio(1025, 1024), ratio(3000, 1000),
	} {
		hasGammas(t, r, allBits...)
	}
	for n := 1; n <= 30; n++ {
		hasGammas(t, ratio(n*n*n, 397), api.MinBits+n*59%113)
	}
}

func TestD1LogBeta(t *testing.T) {
	t.Parallel()
	some := []api.Ratio{ratio(1, 1), ratio(1, 2), ratio(7, 3), ratio(1, 1024), ratio(1022, 1023), ratio(40, 7), ratio(100, 1), ratio(102399, 1024)}
	for i, a := range some {
		for k, b := range some {
			logBeta(a, b).has(t, allBits[(i+2*k)%len(allBits)], raisedTo(betaAt(rat(a), rat(b))))
		}
	}
}

// gammas: all three calls, of the ratio or of it and another one.
func gammas(r api.Ratio) []call {
	return []call{gammaOf(r), logGamma(r), logBeta(r, ratio(7, 3)), logBeta(ratio(7, 3), r), logBeta(r, r)}
}

func TestD1Errors(t *testing.T) {
	for _, row := range []struct {
		r    api.Ratio
		bits int
		want api.Errno
	}{
		{ratio(1, 0), 20, api.ErrRange}, {ratio(0, 0), 20, api.ErrRange}, {ratio(-1, -1), 20, api.ErrRange}, {ratio(1, 1025), 20, api.ErrRange},
		{ratio(api.MaxNum+1, 1), 20, api.ErrRange}, {ratio(-api.MaxNum-1, 1), 20, api.ErrRange}, {ratio(math.MinInt, 1), 20, api.ErrRange},
		{ratio(1, 1), 7, api.ErrRange}, {ratio(1, 1), 121, api.ErrRange}, {ratio(0, 1), 7, api.ErrRange}, {ratio(101, 1), 121, api.ErrRange},
		{ratio(0, 1), 20, api.ErrNone}, {ratio(-1, 1024), 20, api.ErrNone}, {ratio(-101, 1), 20, api.ErrNone}, {ratio(-api.MaxNum, 1), 20, api.ErrNone},
		{ratio(101, 1), 20, api.ErrMany}, {ratio(102401, 1024), 20, api.ErrMany}, {ratio(1001, 10), 8, api.ErrMany}, {ratio(api.MaxNum, 1), 120, api.ErrMany},
	} {
		for _, c := range gammas(row.r) {
			c.refuses(t, row.bits, row.want)
		}
	}
}

// TestD1LogBetaErrors: the kind that is named first goes ahead, whichever of both it is told of.
func TestD1LogBetaErrors(t *testing.T) {
	bad, none, many := ratio(1, 0), ratio(0, 1), ratio(101, 1)
	refused(t, []wrong{
		{logBeta(bad, none), 20, api.ErrRange}, {logBeta(none, bad), 20, api.ErrRange},
		{logBeta(bad, many), 20, api.ErrRange}, {logBeta(many, bad), 20, api.ErrRange},
		{logBeta(none, many), 20, api.ErrNone}, {logBeta(many, none), 20, api.ErrNone},
		{logBeta(none, many), 7, api.ErrRange}, {logBeta(many, none), 121, api.ErrRange},
	})
}

// TestD1Least: the promise leaves free which span it is; this one is the least one, in all of these.
func TestD1Least(t *testing.T) {
	areLeast(t, []least{
		{logGamma(ratio(1, 2)), 120, "928682473d0de85eafcab635421fa4"},
		{logGamma(ratio(1, 3)), 64, "fc44870b5ba0ce07"},
		{logGamma(ratio(1, 1024)), 120, "6ee500bbb72645fcecb166c9d8c6362"},
		{logGamma(ratio(33, 10)), 100, "fcb27e0dfc6a135bf4a489218"},
		{logGamma(ratio(100, 1)), 120, "167225b487946205a0f759b9e04467f4d"},
		{logGamma(ratio(102399, 1024)), 64, "1672134df8098df0591"},
		{logGamma(ratio(1023, 1024)), 120, "24fe4466a33d85ae33d49264d8fd"},
		{logGamma(ratio(1025, 1024)), 120, "-24e3f2bfb660e717ce97529b1a41"},
		{logGamma(ratio(1461, 1000)), 8, "-20"},
		{logGamma(ratio(3, 2)), 90, "-7bae56c2530645346863f6"},
		{logGamma(ratio(2049, 1024)), 120, "1b140e955f0138603b0950897ee6"},
		{gammaOf(ratio(1, 2)), 120, "1c5bf891b4ef6aa79c3b0520d5db938"},
		{gammaOf(ratio(1, 3)), 64, "2adceea72905e2cee"},
		{gammaOf(ratio(1, 1024)), 120, "3ff6c7ad64cea4cc648f24c5394e606ab"},
		{gammaOf(ratio(33, 10)), 100, "2aef5c0945d27baf83ba1b58cc"},
		{gammaOf(ratio(102399, 1024)), 64, "454b3bae5dc4821dec6930625ded8d4587ea62ea99c0ca9416d1efdfa63cb6b67bf60aa014c3e6cabd56a1179af10a51f3efe3ec4d3fdcf03d0510aeba57f4e32eef5e4088299b92e8"},
		{gammaOf(ratio(199, 2)), 120, "6fca0a1146fef09dda804c8d16c3c4143975f28e19dce714d3cea3363639942ebfc445adf05aa49530b114e508b35d7df8fdd10d682394a221e788647fd8f6ecd180bd5f111d7f58636296fc7241150"},
		{gammaOf(ratio(1461, 1000)), 8, "e2"},
		{gammaOf(ratio(40, 7)), 20, "4a42594"},
		{logBeta(ratio(1, 2), ratio(1, 2)), 120, "1250d048e7a1bd0bd5f956c6a843f49"},
		{logBeta(ratio(7, 3), ratio(33, 10)), 64, "-303467576981e1157"},
		{logBeta(ratio(1, 1024), ratio(1, 1023)), 120, "79fc6eb573a6c6a5ce62899f3b59bac"},
		{logBeta(ratio(100, 1), ratio(100, 1)), 120, "-8baa4e6b64c5979168eaabf84b2957a3"},
		{logBeta(ratio(100, 1), ratio(1, 1024)), 90, "1bb4a68a666b17e45c8e26b9"},
		{logBeta(ratio(1, 1), ratio(2, 1)), 100, "-b17217f7d1cf79abc9e3b3981"},
		{logBeta(ratio(5, 1), ratio(40, 7)), 8, "-6f4"},
		{logBeta(ratio(102399, 1024), ratio(102300, 1023)), 120, "-8baa21e5c47d159e22d5dd44c0dec938"},
	})
}

// TestD2Steps: the gamma function of what is 1 more is what was that, times it.
func TestD2Steps(t *testing.T) {
	for _, bits := range allBits {
		for n := 1; n <= 40; n++ {
			r := ratio(n*n, 17)
			of, _ := span.Of(r, bits)
			more := gammaOf(ratio(r.Num+17, 17)).span(t, bits)
			meets(t, fmt.Sprint("Gamma", r, " by ", bits), gammaOf(r).span(t, bits), of, more, span.Mul)
		}
	}
}

// TestD2One: that of 1 and of 2 is 1, and its logarithm 0.
func TestD2One(t *testing.T) {
	t.Parallel()
	for bits := api.MinBits; bits <= api.MaxBits; bits++ {
		for _, r := range []api.Ratio{ratio(1, 1), ratio(2, 1), ratio(7, 7), ratio(2048, 1024)} {
			meets(t, "Gamma", gammaOf(r).span(t, bits), whole(0, bits), whole(1, bits), span.Add)
			meets(t, "LogGamma", logGamma(r).span(t, bits), whole(0, bits), whole(0, bits), span.Add)
		}
	}
}

// TestD2Round: the beta function is the same the other way round; that of a and 1 is 1 over a.
func TestD2Round(t *testing.T) {
	for _, bits := range allBits {
		for n := 1; n <= 20; n++ {
			a, b := ratio(n*n, 5), ratio(3*n, 8)
			there, back := logBeta(a, b).span(t, bits), logBeta(b, a).span(t, bits)
			if !same(there, back) {
				t.Errorf("%v and %v: %v is not %v", a, b, there, back)
			}
			meets(t, "of a and 1", logBeta(a, ratio(1, 1)).span(t, bits), log(a).span(t, bits), whole(0, bits), span.Add)
		}
	}
}
