package tests

import (
	"fmt"
	"math"
	"math/big"
	"testing"

	"tailsure/api"
	"tailsure/law"
	"tailsure/quantile"
	"tailsure/span"
)

// goodLaws: some of each kind, with those at the edges of what may be.
var goodLaws = []api.Law{
	lawOf(api.LawNormal, ratio(1, 1), ratio(2, 1)), lawOf(api.LawNormal, ratio(0, 7), ratio(1, 1)), lawOf(api.LawNormal, ratio(-5, 2), ratio(1, 100)),
	lawOf(api.LawNormal, ratio(100, 1), ratio(100, 1)), lawOf(api.LawNormal, ratio(-102400, 1024), ratio(33, 1000)),
	lawOf(api.LawWait, ratio(1, 2), zero), lawOf(api.LawWait, ratio(1, 1024), zero), lawOf(api.LawWait, ratio(100, 1), zero),
	lawOf(api.LawGamma, ratio(5, 2), ratio(2, 1)), lawOf(api.LawGamma, ratio(1, 1024), ratio(1, 100)), lawOf(api.LawGamma, ratio(100, 1), ratio(100, 1)), lawOf(api.LawGamma, ratio(33, 10), ratio(1, 7)),
	lawOf(api.LawBeta, ratio(2, 1), ratio(3, 1)), lawOf(api.LawBeta, ratio(1, 2), ratio(1, 2)), lawOf(api.LawBeta, ratio(1, 1024), ratio(1, 100)), lawOf(api.LawBeta, ratio(100, 1), ratio(100, 1)), lawOf(api.LawBeta, ratio(1, 1), ratio(9, 9)),
	lawOf(api.LawStudent, ratio(3, 1), zero), lawOf(api.LawStudent, ratio(1, 1), zero), lawOf(api.LawStudent, ratio(1, 1024), zero), lawOf(api.LawStudent, ratio(102399, 1024), zero), lawOf(api.LawStudent, ratio(100, 1), zero),
	lawOf(api.LawCount, ratio(10, 1), ratio(3, 10)), lawOf(api.LawCount, zero, ratio(1, 2)), lawOf(api.LawCount, ratio(5, 1), ratio(0, 7)), lawOf(api.LawCount, ratio(5, 1), ratio(7, 7)),
	lawOf(api.LawCount, ratio(100, 1), ratio(1, 2)), lawOf(api.LawCount, ratio(100, 1), ratio(1, 1024)), lawOf(api.LawCount, ratio(99, 1), ratio(1022, 1023)), lawOf(api.LawCount, zero, zero),
	lawOf(api.LawRare, ratio(3, 1), zero), lawOf(api.LawRare, ratio(1, 1024), zero), lawOf(api.LawRare, ratio(100, 1), zero), lawOf(api.LawRare, ratio(321, 10), zero),
}

// badLaw is one that Check refuses.
type badLaw struct {
	law  api.Law
	want api.Errno
}

// badLaws: each with the first error that applies.
func badLaws() []badLaw {
	one, many := ratio(1, 1), ratio(101, 1)
	var out []badLaw
	for _, kind := range []int{math.MinInt, -1, 0, 8, 1 << 32, math.MaxInt} {
		out = append(out, badLaw{lawOf(kind, one, zero), api.ErrKind}, badLaw{lawOf(kind, ratio(1, 0), many), api.ErrKind})
	}
	for kind := api.LawNormal; kind <= api.LawRare; kind++ {
		for _, bad := range []api.Ratio{{}, ratio(1, 0), ratio(-1, -1), ratio(1, api.MaxDen+1), ratio(api.MaxNum+1, 1), ratio(-api.MaxNum-1, 1), ratio(math.MinInt, math.MaxInt), ratio(math.MaxInt, 1)} {
			for _, other := range []api.Ratio{one, zero, many, ratio(-1, 1), bad} { // ErrForm and ErrMany come behind
				out = append(out, badLaw{lawOf(kind, bad, other), api.ErrRange}, badLaw{lawOf(kind, other, bad), api.ErrRange})
			}
		}
	}
	for _, kind := range []int{api.LawWait, api.LawStudent, api.LawRare} {
		for _, b := range []api.Ratio{one, ratio(-1, 1), ratio(0, 2), ratio(0, 1024), ratio(1, 1024), many} {
			for _, a := range []api.Ratio{one, zero, ratio(-101, 1), many} { // ahead of what A is
				out = append(out, badLaw{lawOf(kind, a, b), api.ErrForm})
			}
		}
		out = append(out, badLaw{lawOf(kind, zero, zero), api.ErrRange}, badLaw{lawOf(kind, ratio(-1, 1024), zero), api.ErrRange}, badLaw{lawOf(kind, ratio(-101, 1), zero), api.ErrRange},
			badLaw{lawOf(kind, many, zero), api.ErrMany}, badLaw{lawOf(kind, ratio(102401, 1024), zero), api.ErrMany}, badLaw{lawOf(kind, ratio(api.MaxNum, 1), zero), api.ErrMany})
	}
	for _, kind := range []int{api.LawNormal, api.LawGamma, api.LawBeta} {
		out = append(out, badLaw{lawOf(kind, one, zero), api.ErrRange}, badLaw{lawOf(kind, one, ratio(-1, 1024)), api.ErrRange}, badLaw{lawOf(kind, many, zero), api.ErrRange}, badLaw{lawOf(kind, one, ratio(-101, 1)), api.ErrRange},
			badLaw{lawOf(kind, many, one), api.ErrMany}, badLaw{lawOf(kind, ratio(102401, 1024), one), api.ErrMany}, badLaw{lawOf(kind, one, many), api.ErrMany},
			badLaw{lawOf(kind, one, ratio(1, 101)), api.ErrMany}, badLaw{lawOf(kind, one, ratio(10, 1001)), api.ErrMany}, badLaw{lawOf(kind, one, ratio(1, 1024)), api.ErrMany})
	}
	for _, kind := range []int{api.LawGamma, api.LawBeta} {
		out = append(out, badLaw{lawOf(kind, zero, one), api.ErrRange}, badLaw{lawOf(kind, ratio(-101, 1), one), api.ErrRange}, badLaw{lawOf(kind, ratio(-1, 3), many), api.ErrRange}, badLaw{lawOf(kind, zero, ratio(1, 101)), api.ErrRange})
	}
	for _, a := range []api.Ratio{ratio(1, 2), ratio(2, 2), ratio(0, 2), many, ratio(-1, 1), ratio(api.MaxNum, 1)} {
		out = append(out, badLaw{lawOf(api.LawCount, a, ratio(1, 2)), api.ErrRange})
	}
	for _, b := range []api.Ratio{ratio(3, 2), ratio(-1, 1024), ratio(1024, 1023), many} {
		out = append(out, badLaw{lawOf(api.LawCount, one, b), api.ErrRange})
	}
	return append(out, badLaw{lawOf(api.LawNormal, ratio(-101, 1), one), api.ErrMany}, badLaw{lawOf(api.LawNormal, ratio(-102401, 1024), one), api.ErrMany})
}

func TestG1Check(t *testing.T) {
	for _, l := range goodLaws {
		if e := law.Check(l); e != api.OK {
			t.Errorf("%v: error %v", l, e)
		}
	}
	for _, row := range badLaws() {
		if e := law.Check(row.law); e != row.want {
			t.Errorf("%v: error %v and must be %v", row.law, e, row.want)
		}
	}
}

// TestG1OthersTellItFirst, whatever else is wrong.
func TestG1OthersTellItFirst(t *testing.T) {
	for _, row := range badLaws() {
		for _, bits := range []int{-1, 20} {
			for _, x := range []api.Ratio{ratio(1, 2), ratio(1, 0)} {
				refused(t, []wrong{{below(row.law, x), bits, row.want}, {above(row.law, x), bits, row.want}, {mass(row.law, math.MaxInt*x.Den), bits, row.want}})
				if n, e := quantile.Quantile(row.law, x, bits-20, bits); n != 0 || e != row.want {
					t.Errorf("Quantile %v: %d, error %v and must be %v", row.law, n, e, row.want)
				}
				if n, e := quantile.Median(row.law, bits, bits); n != 0 || e != row.want {
					t.Errorf("Median %v: %d, error %v and must be %v", row.law, n, e, row.want)
				}
			}
		}
	}
}

func TestG1G2Errors(t *testing.T) {
	for _, l := range goodLaws {
		for _, made := range []func(api.Law, api.Ratio) call{below, above} {
			for _, x := range []api.Ratio{{}, ratio(1, 0), ratio(-1, -1), ratio(1, api.MaxDen+1), ratio(api.MaxNum+1, 1), ratio(-api.MaxNum-1, 1), ratio(math.MinInt, 1), ratio(1, math.MinInt)} {
				refused(t, []wrong{{made(l, x), 20, api.ErrRange}, {made(l, x), 0, api.ErrRange}})
			}
			for _, bits := range []int{math.MinInt, 0, api.MinBits - 1, api.MaxBits + 1, math.MaxInt} {
				refused(t, []wrong{{made(l, ratio(1, 2)), bits, api.ErrRange}, {made(l, ratio(-9, 1)), bits, api.ErrRange}})
			}
		}
	}
}

// hasBoth: have the spans of Below and Above what they must?
func hasBoth(t *testing.T, l api.Law, x api.Ratio, someBits ...int) {
	t.Helper()
	want := belowAt(l, rat(x))
	for _, bits := range someBits {
		below(l, x).has(t, bits, comparedTo(want))
		above(l, x).has(t, bits, comparedTo(new(big.Float).Sub(whole64(1), want)))
	}
}

// around: where something comes by a law, and where what the tests reckon on their own is right.
func around(l api.Law) []api.Ratio {
	var out []api.Ratio
	for k, x := range []api.Ratio{ratio(-5, 2), ratio(-1, 1024), ratio(0, 3), ratio(1, 1024), ratio(1, 3), ratio(1, 2), ratio(2, 3), ratio(1023, 1024), ratio(3, 1), ratio(7, 2), ratio(50, 9), ratio(30, 1)} {
		switch {
		case l.Kind == api.LawNormal: // up to some spreads from the mean
			out = append(out, ratio(1024*l.A.Num/l.A.Den+(k-6)*800*l.B.Num/l.B.Den, 1024))
		case l.Kind != api.LawGamma || l.B.Num*x.Num <= 400*l.B.Den*x.Den:
			out = append(out, x)
		}
	}
	return out
}

func TestG2(t *testing.T) {
	t.Parallel()
	for i, l := range goodLaws {
		for k, x := range around(l) {
			hasBoth(t, l, x, allBits[(i+k)%len(allBits)], allBits[(i+3*k+1)%len(allBits)])
		}
	}
}

// TestG2Many: with other numbers.
func TestG2Many(t *testing.T) {
	t.Parallel()
	for n := 1; n <= 24; n++ {
		bits := api.MinBits + n*59%113
		for kind := api.LawNormal; kind <= api.LawStudent; kind++ {
			b := ratio(7*n+1, 9)
			if kind == api.LawWait || kind == api.LawStudent {
				b = zero
			}
			hasBoth(t, lawOf(kind, ratio(n*n*n, 197), b), ratio(n*37%41, 3+n), bits)
		}
		hasBoth(t, lawOf(api.LawStudent, ratio(n*n, 17), zero), ratio(-n*n*n, 7), bits)
		hasBoth(t, lawOf(api.LawNormal, ratio(-n, 3), ratio(n*n, 6)), ratio(-n*n, 2), bits)
		hasBoth(t, lawOf(api.LawRare, ratio(n*n, 7), zero), ratio(n*n+1, 6), bits)
	}
}

// TestG2Count: it is a ratio, which many a span has at its end.
func TestG2Count(t *testing.T) {
	t.Parallel()
	for n := 0; n <= 100; n += 4 {
		for k, b := range []api.Ratio{zero, ratio(1, 2), ratio(1, 3), ratio(3, 4), ratio(1023, 1024), ratio(9, 9)} {
			l := lawOf(api.LawCount, ratio(n, 1), b)
			for _, x := range []api.Ratio{ratio(-1, 1024), ratio(n*k, 6), ratio(3*n, 4), ratio(2*n-1, 2), ratio(n, 1), ratio(n+1, 1), ratio(api.MaxNum, 1)} {
				want := new(big.Rat)
				for i := 0; i*x.Den <= x.Num && i <= n; i++ {
					want.Add(want, countAt(l, i))
				}
				bits := allBits[(n+k+x.Den)%len(allBits)]
				below(l, x).has(t, bits, comparedToRatio(want))
				above(l, x).has(t, bits, comparedToRatio(want.Sub(big.NewRat(1, 1), want)))
			}
		}
	}
}

// TestG2Edges: where nothing, all, or one half is for sure.
func TestG2Edges(t *testing.T) {
	for _, bits := range allBits {
		for _, l := range goodLaws {
			for _, x := range []api.Ratio{ratio(-1, 1024), ratio(-1, 1), ratio(-50, 1), ratio(-api.MaxNum, 1)} {
				if l.Kind != api.LawNormal && l.Kind != api.LawStudent {
					below(l, x).is(t, whole(0, bits))
					above(l, x).is(t, whole(1, bits))
				}
			}
			for _, x := range []api.Ratio{ratio(0, 1), ratio(0, 1024)} {
				switch l.Kind {
				case api.LawWait, api.LawGamma, api.LawBeta:
					below(l, x).is(t, whole(0, bits))
					above(l, x).is(t, whole(1, bits))
				case api.LawStudent:
					below(l, x).is(t, just(ratio(1, 2), bits))
					above(l, x).is(t, just(ratio(1, 2), bits))
				case api.LawNormal:
					below(l, l.A).has(t, bits, comparedToRatio(big.NewRat(1, 2)))
					above(l, l.A).has(t, bits, comparedToRatio(big.NewRat(1, 2)))
				}
			}
			for _, x := range []api.Ratio{ratio(1, 1), ratio(1024, 1024), ratio(1024, 1023), ratio(2, 1), ratio(api.MaxNum, 1)} {
				if l.Kind == api.LawBeta {
					below(l, x).is(t, whole(1, bits))
					above(l, x).is(t, whole(0, bits))
				}
			}
		}
	}
}

// TestG2Far: from far on nothing is left but the last bit; of LawStudent more is.
func TestG2Far(t *testing.T) {
	far, opposite := ratio(api.MaxNum, 1), ratio(-api.MaxNum, 1)
	for _, bits := range allBits {
		for _, l := range goodLaws {
			switch l.Kind {
			case api.LawNormal:
				below(l, opposite).is(t, unitSpan(bits))
				above(l, opposite).is(t, topSpan(bits))
				fallthrough
			case api.LawWait, api.LawGamma, api.LawRare:
				below(l, far).is(t, topSpan(bits))
				above(l, far).is(t, unitSpan(bits))
			case api.LawCount:
				below(l, far).is(t, whole(1, bits))
				above(l, far).is(t, whole(0, bits))
			}
		}
	}
}

// TestG2G3Least: the promises leave free which span it is; this one is the least one, in all of these.
func TestG2G3Least(t *testing.T) {
	areLeast(t, []least{
		{below(lawOf(api.LawNormal, ratio(1, 1), ratio(2, 1)), ratio(0, 1)), 120, "4efc50ee6a9c490cbf1c37bd635a05"},
		{above(lawOf(api.LawNormal, ratio(1, 1), ratio(2, 1)), ratio(0, 1)), 120, "b103af119563b6f340e3c8429ca5fa"},
		{below(lawOf(api.LawNormal, ratio(-5, 2), ratio(1, 100)), ratio(-2511, 1000)), 64, "22bb02cef11d8040"},
		{above(lawOf(api.LawNormal, ratio(-5, 2), ratio(1, 100)), ratio(-2511, 1000)), 64, "dd44fd310ee27fbf"},
		{below(lawOf(api.LawNormal, ratio(100, 1), ratio(1, 100)), ratio(102401, 1024)), 120, "89f52d9ac13f993f91e55ec770dc0d"},
		{below(lawOf(api.LawNormal, ratio(-102399, 1024), ratio(99, 1)), ratio(1048576, 1024)), 120, "ffffffffffffffffffffffffb7c33f"},
		{above(lawOf(api.LawNormal, ratio(33, 10), ratio(100, 7)), ratio(150, 1)), 100, "966ba"},
		{above(lawOf(api.LawNormal, ratio(1, 1), ratio(1, 1)), ratio(14, 1)), 120, "0"},
		{below(lawOf(api.LawWait, ratio(1, 2), zero), ratio(1, 3)), 120, "274cf942eee27bf4788f2475bdab4e"},
		{above(lawOf(api.LawWait, ratio(1, 2), zero), ratio(100, 1)), 120, "e92beaa3f041"},
		{below(lawOf(api.LawWait, ratio(1, 1024), zero), ratio(1, 1024)), 120, "fffff800002aaaaa000002222"},
		{above(lawOf(api.LawWait, ratio(1, 1024), zero), ratio(1, 1024)), 64, "fffff000007ffffd"},
		{below(lawOf(api.LawWait, ratio(100, 1), zero), ratio(5, 6)), 120, "ffffffffffffffffffffffffffffff"},
		{below(lawOf(api.LawWait, ratio(1, 1), zero), ratio(7, 2)), 8, "f8"},
		{below(lawOf(api.LawGamma, ratio(5, 2), ratio(2, 1)), ratio(1, 3)), 120, "118b88ec07d5aa8389eed3ac760875"},
		{above(lawOf(api.LawGamma, ratio(5, 2), ratio(2, 1)), ratio(20, 1)), 120, "3c782f5d8044610b31"},
		{below(lawOf(api.LawGamma, ratio(100, 1), ratio(100, 1)), ratio(1023, 1024)), 100, "826851af0f1cc913286e8fc91"},
		{below(lawOf(api.LawGamma, ratio(1, 1024), ratio(1, 100)), ratio(1, 1024)), 120, "fd46490a893f6795a25530bf08c7ab"},
		{above(lawOf(api.LawGamma, ratio(33, 10), ratio(1, 100)), ratio(1048575, 1024)), 120, "e672a683fe70a7aabc5390c0bfa3"},
		{below(lawOf(api.LawGamma, ratio(102399, 1024), ratio(1023, 1024)), ratio(99, 1)), 64, "782f3379cf78caa1"},
		{below(lawOf(api.LawBeta, ratio(2, 1), ratio(3, 1)), ratio(1, 3)), 120, "684bda12f684bda12f684bda12f684"},
		{above(lawOf(api.LawBeta, ratio(1, 2), ratio(1, 2)), ratio(1, 3)), 120, "9bb1414d52f82d5d33357f2abfb51d"},
		{below(lawOf(api.LawBeta, ratio(1, 1024), ratio(1, 100)), ratio(1, 1024)), 64, "e7a79d331d4c49ec"},
		{above(lawOf(api.LawBeta, ratio(100, 1), ratio(100, 1)), ratio(511, 1023)), 120, "8168f8ae06be3063bd8334ae667b4a"},
		{below(lawOf(api.LawBeta, ratio(33, 10), ratio(1, 3)), ratio(1023, 1024)), 120, "d7192326d3a2b7f3bfff2c0f7199fa"},
		{below(lawOf(api.LawStudent, ratio(3, 1), zero), ratio(-1, 2)), 120, "5362a59c08c6c65ce6abfee71cbd86"},
		{above(lawOf(api.LawStudent, ratio(3, 1), zero), ratio(-1, 2)), 120, "ac9d5a63f73939a319540118e34279"},
		{below(lawOf(api.LawStudent, ratio(1, 2), zero), ratio(1048576, 1)), 120, "ffeb79a29db33ec6aa4694b9f3425a"},
		{below(lawOf(api.LawStudent, ratio(1, 1024), zero), ratio(-1048576, 1)), 120, "7dc45bfb9bc77285bd605c669aede7"},
		{above(lawOf(api.LawStudent, ratio(1, 1024), zero), ratio(1, 1024)), 64, "7fff0036fc6513be"},
		{below(lawOf(api.LawStudent, ratio(100, 1), zero), ratio(1, 1024)), 120, "801977f30404e325408530792ca0e0"},
		{above(lawOf(api.LawStudent, ratio(102399, 1024), zero), ratio(20, 1)), 120, "0"},
		{below(lawOf(api.LawStudent, ratio(5, 1), zero), ratio(1, 3)), 8, "9f"},
		{below(lawOf(api.LawCount, ratio(10, 1), ratio(3, 10)), ratio(7, 2)), 120, "a64ce356a8b8835a362e19abbe2d79"},
		{above(lawOf(api.LawCount, ratio(100, 1), ratio(1, 3)), ratio(33, 1)), 120, "7b2fb4e52507cf5c941dd62b3d2067"},
		{below(lawOf(api.LawCount, ratio(100, 1), ratio(1, 1024)), ratio(0, 1)), 120, "e82bbc2a781ed0fadd053012bc81d3"},
		{above(lawOf(api.LawCount, ratio(100, 1), ratio(1023, 1024)), ratio(199, 2)), 120, "e82bbc2a781ed0fadd053012bc81d3"},
		{below(lawOf(api.LawCount, ratio(99, 1), ratio(1, 2)), ratio(30, 1)), 90, "e8a8a76ce55be70983b"},
		{below(lawOf(api.LawRare, ratio(3, 1), zero), ratio(7, 2)), 120, "a5b0fd333f7c701c54f714672b46d4"},
		{above(lawOf(api.LawRare, ratio(3, 1), zero), ratio(0, 1)), 120, "f341279998a7a89b5becfe6e37bf79"},
		{below(lawOf(api.LawRare, ratio(100, 1), zero), ratio(100, 1)), 120, "86ccc7bdff0723f7029caee2df9749"},
		{above(lawOf(api.LawRare, ratio(100, 1), zero), ratio(150, 1)), 120, "14b019a6ea44b6137607f88e07"},
		{below(lawOf(api.LawRare, ratio(1, 1024), zero), ratio(0, 1)), 64, "ffc007ff555fff77"},
		{above(lawOf(api.LawRare, ratio(1, 1024), zero), ratio(2, 1)), 120, "aa8aaddda4fd5bb39c7d4b"},
		{below(lawOf(api.LawRare, ratio(102399, 1024), zero), ratio(50, 1)), 120, "6732ec2788ee20dfbc533ed4"},
		{above(lawOf(api.LawRare, ratio(102399, 1024), zero), ratio(230, 1)), 120, "2e131c2"},
		{mass(lawOf(api.LawCount, ratio(10, 1), ratio(3, 10)), 3), 120, "444ed5d9996c80ba5833a65343fd63"},
		{mass(lawOf(api.LawCount, ratio(100, 1), ratio(1, 3)), 33), 64, "159a1a1e4d828814"},
		{mass(lawOf(api.LawCount, ratio(100, 1), ratio(1023, 1024)), 98), 120, "1192059205d86fb72745d2c48f645"},
		{mass(lawOf(api.LawCount, ratio(100, 1), ratio(511, 1024)), 0), 120, "137285"},
		{mass(lawOf(api.LawRare, ratio(3, 1), zero), 3), 120, "395acdccd10d8944e255871005225d"},
		{mass(lawOf(api.LawRare, ratio(100, 1), zero), 100), 120, "a34548dae663917c336e579728106"},
		{mass(lawOf(api.LawRare, ratio(100, 1), zero), 0), 120, "0"},
		{mass(lawOf(api.LawRare, ratio(1, 1024), zero), 0), 64, "ffc007ff555fff77"},
		{mass(lawOf(api.LawRare, ratio(1, 1024), zero), 7), 120, "33f64103ed"},
		{mass(lawOf(api.LawRare, ratio(102399, 1024), zero), 99), 8, "a"},
	})
}

// TestG2Ends: none is beyond 0 or 1.
func TestG2Ends(t *testing.T) {
	t.Parallel()
	for bits := api.MinBits; bits <= api.MaxBits; bits += 8 {
		for _, l := range goodLaws {
			for _, x := range []api.Ratio{ratio(-api.MaxNum, 1), ratio(-40, 1), ratio(0, 1), ratio(1, 1024), ratio(1, 2), ratio(1023, 1024), ratio(9, 1), ratio(40, 1), ratio(200, 1), ratio(1000, 1), ratio(api.MaxNum, 1)} {
				within(t, below(l, x), bits, 0, 1)
				within(t, above(l, x), bits, 0, 1)
			}
		}
	}
}

func TestG3(t *testing.T) {
	for i, l := range goodLaws {
		for _, n := range []int{0, 1, 2, 3, 5, 10, 49, 50, 98, 99, 100} {
			bits := allBits[(i+n)%len(allBits)]
			switch l.Kind {
			case api.LawCount:
				mass(l, n).has(t, bits, comparedToRatio(countAt(l, n)))
			case api.LawRare:
				mass(l, n).has(t, bits, comparedTo(rareAt(rat(l.A), n)))
			}
		}
	}
	coins := lawOf(api.LawCount, ratio(2, 1), ratio(1, 2))
	mass(coins, 1).is(t, just(ratio(1, 2), 20))
	mass(lawOf(api.LawCount, zero, zero), 0).is(t, whole(1, 20))
}

// TestG3Never: where just 0 comes.
func TestG3Never(t *testing.T) {
	for _, l := range goodLaws {
		for _, bits := range allBits {
			for _, n := range []int{-1, -2, -100, -api.MaxNum} {
				if l.Kind >= api.LawCount {
					mass(l, n).is(t, whole(0, bits))
				}
			}
			for _, n := range []int{l.A.Num + 1, 101, 1000, api.MaxNum} {
				if l.Kind == api.LawCount {
					mass(l, n).is(t, whole(0, bits))
				}
			}
		}
	}
}

func TestG3Errors(t *testing.T) {
	for _, l := range goodLaws {
		for _, bits := range []int{math.MinInt, 7, 8, 20, 120, 121} {
			for _, n := range []int{math.MinInt, -api.MaxNum - 1, -1, 0, 5, api.MaxCount, api.MaxCount + 1, api.MaxNum, api.MaxNum + 1, math.MaxInt} {
				want := api.OK
				switch {
				case l.Kind != api.LawCount && l.Kind != api.LawRare:
					want = api.ErrKind
				case bits < api.MinBits || bits > api.MaxBits || n < -api.MaxNum || n > api.MaxNum:
					want = api.ErrRange
				case l.Kind == api.LawRare && n > api.MaxCount:
					want = api.ErrMany
				}
				if want == api.OK {
					within(t, mass(l, n), bits, 0, 1)
				} else {
					mass(l, n).refuses(t, bits, want)
				}
			}
		}
	}
}

// TestG4Order: with more x it is more likely to be below, and less likely to be above.
func TestG4Order(t *testing.T) {
	t.Parallel()
	for _, l := range []api.Law{
		lawOf(api.LawNormal, ratio(1, 1), ratio(9, 1)), lawOf(api.LawWait, ratio(1, 2), zero), lawOf(api.LawGamma, ratio(5, 2), ratio(1, 3)), lawOf(api.LawBeta, ratio(33, 10), ratio(1, 2)),
		lawOf(api.LawStudent, ratio(3, 1), zero), lawOf(api.LawCount, ratio(40, 1), ratio(3, 10)), lawOf(api.LawRare, ratio(20, 1), zero),
	} {
		step := 1
		if l.Kind == api.LawBeta {
			step = 40
		}
		from := 0
		if l.Kind == api.LawNormal || l.Kind == api.LawStudent {
			from = -20
		}
		for n := from; n < from+40; n++ {
			x, more := ratio(n, step), ratio(n+1, step)
			ordered(t, below(l, x), below(l, more), 120, -1)
			ordered(t, above(l, x), above(l, more), 120, 1)
		}
	}
}

// TestG4Between: between whole numbers nothing comes by LawCount and LawRare, so it is the same there.
func TestG4Between(t *testing.T) {
	for _, l := range goodLaws {
		if l.Kind < api.LawCount {
			continue
		}
		for n := -3; n < 20; n++ {
			want := below(l, ratio(n, 1)).span(t, 50)
			for _, x := range []api.Ratio{ratio(3*n, 3), ratio(2*n+1, 2), ratio(1024*n+1, 1024), ratio(1024*n+1023, 1024)} {
				below(l, x).is(t, want)
			}
		}
	}
}

// TestG4Together: both together are 1.
func TestG4Together(t *testing.T) {
	for _, l := range goodLaws {
		for n := -6; n <= 18; n++ {
			x, bits := ratio(n*n*n, 17), allBits[(n+6)%len(allBits)]
			meets(t, fmt.Sprint(l, x, bits), below(l, x).span(t, bits), above(l, x).span(t, bits), whole(1, bits), span.Add)
		}
	}
}

// TestG4Sum: what is likely for n and for all below it are the sum.
func TestG4Sum(t *testing.T) {
	t.Parallel()
	for _, l := range goodLaws {
		if l.Kind < api.LawCount {
			continue
		}
		for _, bits := range allBits {
			sum := whole(0, bits)
			for n := -2; n <= 100; n++ {
				one := mass(l, n).span(t, bits)
				meets(t, fmt.Sprint("at most ", n, " by ", l), sum, one, below(l, ratio(n, 1)).span(t, bits), span.Add)
				sum, _ = span.Add(sum, one)
			}
		}
	}
}
