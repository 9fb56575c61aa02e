package tests

import (
	"math"
	"math/big"
	"testing"

	"tailsure/api"
	"tailsure/quantile"
)

func counted(l api.Law) bool { return l.Kind == api.LawCount || l.Kind == api.LawRare }

// bounds: LEAST and MOST.
func bounds(l api.Law, steps int) (int, int) {
	if counted(l) {
		return 0, api.MaxCount
	}
	return -api.MaxFar << steps, api.MaxFar << steps
}

// howFar: the quantile, which must be from LEAST to MOST and 1.
func howFar(t *testing.T, l api.Law, p api.Ratio, steps, bits int) int {
	t.Helper()
	n, e := quantile.Quantile(l, p, steps, bits)
	if least, most := bounds(l, steps); e != api.OK || n < least || n > most+1 {
		t.Fatalf("%v %v %d %d: it is %d, error %v", l, p, steps, bits, n, e)
	}
	return n
}

// zone within which what is likely may be taken for p: 2 to the power of 3 less bits.
func zone(bits int) *big.Rat {
	return new(big.Rat).SetFrac(big.NewInt(8), new(big.Int).Lsh(big.NewInt(1), uint(bits)))
}

// isQuantile: n reaches p, or nearly so, and the one ahead of it does not, or hardly so.
func isQuantile(t *testing.T, l api.Law, p api.Ratio, steps, bits int) {
	t.Helper()
	n := howFar(t, l, p, steps, bits)
	least, most := bounds(l, steps)
	at := func(n int) (*big.Rat, *big.Rat) { return ends(below(l, ratio(n, 1<<steps)).span(t, api.MaxBits)) }
	if n <= most {
		if _, hi := at(n); hi.Add(hi, zone(bits)).Cmp(rat(p)) < 0 {
			t.Errorf("%v %v %d %d: %d is not enough", l, p, steps, bits, n)
		}
	}
	if n > least {
		if lo, _ := at(n - 1); lo.Sub(lo, zone(bits)).Cmp(rat(p)) > 0 {
			t.Errorf("%v %v %d %d: %d is not the least one", l, p, steps, bits, n)
		}
	}
}

var someP = []api.Ratio{ratio(0, 1), ratio(1, 1024), ratio(1, 1000), ratio(1, 10), ratio(1, 3), ratio(1, 2), ratio(3, 6), ratio(13, 20), ratio(3, 4), ratio(99, 100), ratio(1023, 1024), ratio(7, 7)}

func TestH1(t *testing.T) {
	t.Parallel()
	for i, l := range goodLaws {
		for k, p := range someP {
			steps := (i + k) % (api.MaxSteps + 1)
			if counted(l) {
				steps = 0
			}
			isQuantile(t, l, p, steps, allBits[(i+3*k)%len(allBits)])
		}
	}
}

// TestH1Count: of a law that is a ratio, held against all numbers from 0 on; p is far enough from what is likely.
func TestH1Count(t *testing.T) {
	for n := 0; n <= 100; n += 5 {
		l := lawOf(api.LawCount, ratio(n, 1), ratio(n%7, 7))
		for _, p := range []api.Ratio{ratio(1, 1000), ratio(101, 1000), ratio(499, 1000), ratio(501, 1000), ratio(701, 1023), ratio(999, 1000)} {
			want, sum := 0, countAt(l, 0)
			for ; sum.Cmp(rat(p)) < 0; sum.Add(sum, countAt(l, want)) {
				want++
			}
			if got := howFar(t, l, p, 0, 100); got != want {
				t.Errorf("%v %v: it is %d and must be %d", l, p, got, want)
			}
		}
	}
}

// TestH1Known: what tables have.
func TestH1Known(t *testing.T) {
	standard := lawOf(api.LawNormal, zero, ratio(1, 1))
	for _, row := range []struct {
		law         api.Law
		p           api.Ratio
		steps, want int
	}{
		{standard, ratio(975, 1000), 0, 2}, {standard, ratio(975, 1000), 6, 126}, {standard, ratio(25, 1000), 6, -125}, // 1.95996 and its opposite
		{standard, ratio(1, 2), 6, 0}, {standard, ratio(1, 2), 0, 0},
		{lawOf(api.LawNormal, ratio(-5, 2), ratio(1, 100)), ratio(1, 2), 1, -5}, {lawOf(api.LawNormal, ratio(-5, 2), ratio(1, 100)), ratio(1, 2), 0, -2},
		{lawOf(api.LawWait, ratio(1, 1), zero), ratio(1, 2), 6, 45},                                                                    // 0.69315
		{lawOf(api.LawWait, ratio(1, 2), zero), ratio(99, 100), 2, 37},                                                                 // 9.21034
		{lawOf(api.LawGamma, ratio(5, 2), ratio(1, 2)), ratio(95, 100), 6, 709},                                                        // 11.0705
		{lawOf(api.LawBeta, ratio(1, 2), ratio(1, 2)), ratio(1, 4), 6, 10},                                                             // 0.14645
		{lawOf(api.LawStudent, ratio(10, 1), zero), ratio(975, 1000), 6, 143},                                                          // 2.22814
		{lawOf(api.LawStudent, ratio(1, 1), zero), ratio(4, 5), 6, 89},                                                                 // 1.37638
		{lawOf(api.LawCount, ratio(3, 1), ratio(1, 2)), ratio(3, 5), 0, 2}, {lawOf(api.LawRare, ratio(3, 1), zero), ratio(1, 2), 0, 3}, // 0.423, 0.647
	} {
		if got := howFar(t, row.law, row.p, row.steps, 64); got != row.want {
			t.Errorf("%v %v %d: it is %d and must be %d", row.law, row.p, row.steps, got, row.want)
		}
	}
}

// TestH1Bounds: of p 0 it is LEAST; if there is none up to MOST, it is MOST and 1.
func TestH1Bounds(t *testing.T) {
	t.Parallel()
	for _, l := range goodLaws {
		for steps := 0; steps <= api.MaxSteps; steps++ {
			least, _ := bounds(l, steps)
			if counted(l) && steps > 0 {
				continue
			}
			for _, bits := range allBits {
				if got := howFar(t, l, ratio(0, 9), steps, bits); got != least {
					t.Errorf("%v %d: it is %d and must be %d", l, steps, got, least)
				}
			}
		}
	}
	for steps := 0; steps <= api.MaxSteps; steps++ {
		for _, row := range []struct {
			law  api.Law
			p    api.Ratio
			want int
		}{
			{lawOf(api.LawNormal, ratio(100, 1), ratio(1, 1)), ratio(1, 1000), api.MaxFar<<steps + 1},
			{lawOf(api.LawNormal, ratio(50, 1), ratio(1, 1)), ratio(501, 1000), api.MaxFar<<steps + 1},
			{lawOf(api.LawNormal, ratio(50, 1), ratio(1, 100)), ratio(499, 1000), api.MaxFar << steps},
			{lawOf(api.LawNormal, ratio(-100, 1), ratio(1, 1)), ratio(999, 1000), -api.MaxFar << steps},
			{lawOf(api.LawNormal, ratio(-50, 1), ratio(1, 100)), ratio(499, 1000), -api.MaxFar << steps},
			{lawOf(api.LawNormal, ratio(-50, 1), ratio(1, 100)), ratio(501, 1000), -api.MaxFar<<steps + 1},
			{lawOf(api.LawWait, ratio(1, 1024), zero), ratio(1, 2), api.MaxFar<<steps + 1},
			{lawOf(api.LawGamma, ratio(100, 1), ratio(1, 100)), ratio(1, 1024), api.MaxFar<<steps + 1},
			{lawOf(api.LawStudent, ratio(1, 1024), zero), ratio(99, 100), api.MaxFar<<steps + 1},
			{lawOf(api.LawStudent, ratio(1, 1024), zero), ratio(1, 100), -api.MaxFar << steps},
			{lawOf(api.LawBeta, ratio(2, 1), ratio(3, 1)), ratio(1, 1), 1 << steps},
		} {
			if got := howFar(t, row.law, row.p, steps, 20); got != row.want {
				t.Errorf("%v %v %d: it is %d and must be %d", row.law, row.p, steps, got, row.want)
			}
		}
	}
	rare := lawOf(api.LawRare, ratio(100, 1), zero)
	for p, want := range map[api.Ratio]int{ratio(13, 20): api.MaxCount + 1, ratio(1, 1): api.MaxCount + 1, ratio(52, 100): api.MaxCount, ratio(48, 100): api.MaxCount - 1} {
		if got := howFar(t, rare, p, 0, 40); got != want {
			t.Errorf("%v %v: it is %d and must be %d", rare, p, got, want)
		}
	}
	if got := howFar(t, lawOf(api.LawCount, ratio(100, 1), ratio(1, 1)), ratio(1, 1), 0, 40); got != api.MaxCount {
		t.Errorf("it is %d and must be %d", got, api.MaxCount)
	}
}

func TestH1Median(t *testing.T) {
	t.Parallel()
	for _, l := range goodLaws {
		for steps := -1; steps <= api.MaxSteps+1; steps++ {
			for _, bits := range []int{7, 8, 21, 121} {
				n, e := quantile.Median(l, steps, bits)
				m, f := quantile.Quantile(l, ratio(1, 2), steps, bits)
				if n != m || e != f {
					t.Errorf("%v %d %d: it is %d, error %v, and must be %d, error %v", l, steps, bits, n, e, m, f)
				}
			}
		}
		if n, e := quantile.Median(l, 0, 20); l.Kind == api.LawStudent && (n != 0 || e != api.OK) {
			t.Errorf("%v: it is %d, error %v", l, n, e)
		}
	}
}

func TestH2(t *testing.T) {
	t.Parallel()
	for _, l := range goodLaws {
		for _, p := range []api.Ratio{ratio(1, 2), ratio(0, 1), ratio(1, 1), {}, ratio(1, 0), ratio(-1, -2), ratio(1, 1025), ratio(-1, 1024), ratio(1024, 1023), ratio(api.MaxNum+1, 1), ratio(math.MinInt, 1), ratio(math.MaxInt, math.MaxInt)} {
			for _, steps := range []int{math.MinInt, -1, 0, 1, api.MaxSteps, api.MaxSteps + 1, 64, math.MaxInt} {
				for _, bits := range []int{math.MinInt, 7, 8, 120, 121, math.MaxInt} {
					want := api.OK
					switch good := p.Num >= 0 && p.Den >= 1 && p.Den <= 1024 && p.Num <= p.Den; {
					case !good || steps < 0 || steps > api.MaxSteps || bits < api.MinBits || bits > api.MaxBits:
						want = api.ErrRange
					case counted(l) && steps != 0:
						want = api.ErrKind
					}
					if n, e := quantile.Quantile(l, p, steps, bits); e != want || e != api.OK && n != 0 {
						t.Errorf("%v %v %d %d: it is %d, error %v and must be error %v", l, p, steps, bits, n, e, want)
					}
				}
			}
		}
	}
}

// TestH3Order: with more p it is not less.
func TestH3Order(t *testing.T) {
	t.Parallel()
	for i, l := range goodLaws {
		steps := i % 5
		if counted(l) {
			steps = 0
		}
		last := math.MinInt
		for n := 0; n <= 40; n++ { // the steps of p are greater than what may be taken either way
			got := howFar(t, l, ratio(n, 40), steps, 20)
			if got < last {
				t.Errorf("%v %d over 40: it is %d, and was %d", l, n, got, last)
			}
			last = got
		}
	}
}

// TestH3Reached: what comes is at most that, at least as likely as p, or nearly so.
func TestH3Reached(t *testing.T) {
	t.Parallel()
	for i, l := range goodLaws {
		for n := 1; n < 30; n += 3 {
			steps, bits, p := (i+n)%4, api.MinBits+(i*n)%113, ratio(n, 30)
			if counted(l) {
				steps = 0
			}
			isQuantile(t, l, p, steps, bits)
		}
	}
}
