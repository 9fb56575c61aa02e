package span_test

import (
	"fmt"
	"math"
	"math/big"
	"testing"

	"tailsure/api"
	"tailsure/num"
	"tailsure/span"
)

// faulty spans, and what Check says of each.
func faulty() map[string]struct {
	s    api.Span
	want api.Errno
} {
	type row = struct {
		s    api.Span
		want api.Errno
	}
	wide := num.Up(num.Of(1), api.MaxWide)
	loose := num.Int{Digits: []uint16{1, 0}}
	return map[string]row{
		"bits 0":           {of(1, 2, 0), api.ErrRange},
		"bits -1":          {of(1, 2, -1), api.ErrRange},
		"bits 121":         {of(1, 2, api.MaxBits+1), api.ErrRange},
		"bits of the most": {of(1, 2, math.MaxInt), api.ErrRange},
		"bits of the least, and all else": {
			api.Span{Lo: num.Up(loose, 5000), Hi: num.Int{Neg: true}, Bits: math.MinInt}, api.ErrRange},
		"Lo loose":                      {api.Span{Lo: loose, Hi: num.Of(2), Bits: 9}, api.ErrForm},
		"Hi loose":                      {api.Span{Hi: loose, Bits: 9}, api.ErrForm},
		"Lo is the opposite of 0":       {api.Span{Lo: num.Int{Neg: true}, Bits: 9}, api.ErrForm},
		"Hi is the opposite of 0":       {api.Span{Hi: num.Int{Neg: true, Digits: []uint16{}}, Bits: 9}, api.ErrForm},
		"Hi only zeros":                 {api.Span{Hi: num.Int{Digits: []uint16{0}}, Bits: 9}, api.ErrForm},
		"Lo wide, Hi loose":             {api.Span{Lo: wide, Hi: loose, Bits: 9}, api.ErrForm},
		"Hi wide":                       {api.Span{Hi: wide, Bits: 9}, api.ErrMany},
		"Lo wide below 0":               {api.Span{Lo: num.Neg(wide), Bits: 9}, api.ErrMany},
		"Lo wide and more than Hi":      {api.Span{Lo: wide, Bits: 9}, api.ErrMany},
		"Hi wide below 0, less than Lo": {api.Span{Hi: num.Neg(wide), Bits: 9}, api.ErrMany},
		"Lo more than Hi":               {of(2, 1, 9), api.ErrState},
		"Lo more than Hi, below 0":      {of(-1, -2, 120), api.ErrState},
	}
}

func TestA1Check(t *testing.T) {
	for name, row := range faulty() {
		if e := span.Check(row.s); e != row.want {
			t.Errorf("%s: it is %v and must be %v", name, e, row.want)
		}
	}
	most := num.Sub(num.Up(num.Of(1), api.MaxWide), num.Of(1))
	for _, s := range []api.Span{
		of(0, 0, 1), of(-1, 1, 1), of(3, 3, api.MaxBits), of(-2, -1, 8),
		{Lo: num.Neg(most), Hi: most, Bits: 9}, {Lo: most, Hi: most, Bits: 120},
		{Lo: num.Int{Digits: []uint16{}}, Hi: num.Int{Digits: []uint16{0, 1}}, Bits: 5},
	} {
		if e := span.Check(s); e != api.OK {
			t.Errorf("%v: it is %v and must be OK", s, e)
		}
	}
}

func TestA1OthersTellItFirst(t *testing.T) {
	right := of(1, 2, 9)
	for name, row := range faulty() {
		got, e := span.To(row.s, 7)
		refuses(t, "To: "+name, got, e, row.want)
		got, e = span.Root(row.s)
		refuses(t, "Root: "+name, got, e, row.want)
		if ok, e := span.Narrow(row.s, -1); ok || e != row.want {
			t.Errorf("Narrow: %s: it is %v, %v and must be %v", name, ok, e, row.want)
		}
		for other, next := range faulty() {
			for _, c := range calls() {
				got, e := c.make(row.s, next.s)
				refuses(t, c.name+": "+name+", then "+other, got, e, row.want)
			}
			if n, e := span.Order(row.s, next.s); n != 0 || e != row.want {
				t.Errorf("Order: %s, then %s: it is %v, %v and must be %v", name, other, n, e, row.want)
			}
		}
		for _, c := range calls() {
			got, e := c.make(right, row.s)
			refuses(t, c.name+": right, then "+name, got, e, row.want)
		}
		if n, e := span.Order(right, row.s); n != 0 || e != row.want {
			t.Errorf("Order: right, then %s: it is %v, %v and must be %v", name, n, e, row.want)
		}
	}
}

func TestA2Of(t *testing.T) {
	got, e := span.Of(api.Ratio{Num: 1, Den: 3}, 8)
	wants(t, "1 over 3 by 8 bits", got, e, of(85, 86, 8))
	for _, n := range []int{0, 1, -1, 2, -7, 40, 1023, -1024, 99999, api.MaxNum, -api.MaxNum} {
		for _, d := range []int{1, 2, 3, 7, 512, 1000, api.MaxDen} {
			for _, bits := range []int{api.MinBits, 9, 16, 31, 64, 119, api.MaxBits} {
				got, e := span.Of(api.Ratio{Num: n, Den: d}, bits)
				r := big.NewRat(int64(n), int64(d))
				r.Mul(r, new(big.Rat).SetInt(pow2(bits)))
				wants(t, fmt.Sprint("Of ", n, d, bits), got, e, ofBig(floor(r), ceil(r), bits))
			}
		}
	}
}

func TestA2OfErrors(t *testing.T) {
	for _, r := range []api.Ratio{
		{}, {Num: 1}, {Num: 1, Den: -1}, {Num: 1, Den: api.MaxDen + 1}, {Num: api.MaxNum + 1, Den: 1}, {Num: -api.MaxNum - 1, Den: 1},
		{Num: math.MinInt, Den: 1}, {Num: math.MaxInt, Den: 1}, {Num: 1, Den: math.MinInt}, {Num: 1, Den: math.MaxInt},
	} {
		got, e := span.Of(r, 20)
		refuses(t, fmt.Sprint("Of ", r), got, e, api.ErrRange)
	}
	for _, bits := range []int{math.MinInt, -8, 0, 1, api.MinBits - 1, api.MaxBits + 1, math.MaxInt} {
		got, e := span.Of(api.Ratio{Num: 1, Den: 1}, bits)
		refuses(t, fmt.Sprint("Of 1 by ", bits), got, e, api.ErrRange)
		got, e = span.To(of(1, 2, 9), bits)
		refuses(t, fmt.Sprint("To ", bits), got, e, api.ErrRange)
	}
}

func TestA2To(t *testing.T) {
	var d draw
	for range 3000 {
		from, to := 1+d.n(api.MaxBits), api.MinBits+d.n(api.MaxBits-api.MinBits+1)
		s := d.span(200, from)
		scale := new(big.Rat).SetFrac(pow2(to), pow2(from))
		lo, hi := ends(s)
		want := ofBig(floor(new(big.Rat).Mul(scale, new(big.Rat).SetInt(lo))), ceil(new(big.Rat).Mul(scale, new(big.Rat).SetInt(hi))), to)
		got, e := span.To(s, to)
		wants(t, fmt.Sprint("To ", s, to), got, e, want)
	}
}

func TestA2ToIsTooWide(t *testing.T) {
	s := api.Span{Lo: num.Of(1), Hi: num.Up(num.Of(1), api.MaxWide-2), Bits: 19}
	got, e := span.To(s, 20)
	wants(t, "as wide as may be", got, e, api.Span{Lo: num.Of(2), Hi: num.Up(num.Of(1), api.MaxWide-1), Bits: 20})
	got, e = span.To(s, 21)
	refuses(t, "too wide", got, e, api.ErrMany)
	got, e = span.To(s, 121)
	refuses(t, "too many bits", got, e, api.ErrRange)
	got, e = span.To(api.Span{Lo: num.Neg(s.Hi), Hi: num.Of(1), Bits: 19}, 21)
	refuses(t, "too wide below 0", got, e, api.ErrMany)
	// rounded up, it has a bit more
	full := num.Sub(num.Up(num.Of(1), api.MaxWide), num.Of(1))
	got, e = span.To(api.Span{Hi: full, Bits: 19}, 18)
	wants(t, "rounded up", got, e, api.Span{Hi: num.Up(num.Of(1), api.MaxWide-1), Bits: 18})
}

// made: the least span of what is made of the ends.
func made(a, b api.Span, how func(x, y *big.Rat) *big.Rat) api.Span {
	one := new(big.Rat).SetInt(pow2(a.Bits))
	var all []*big.Rat
	for _, x := range []num.Int{a.Lo, a.Hi} {
		for _, y := range []num.Int{b.Lo, b.Hi} {
			p := new(big.Rat).Quo(new(big.Rat).SetInt(toBig(x)), one)
			q := new(big.Rat).Quo(new(big.Rat).SetInt(toBig(y)), one)
			all = append(all, new(big.Rat).Mul(how(p, q), one))
		}
	}
	lo, hi := all[0], all[0]
	for _, x := range all {
		if x.Cmp(lo) < 0 {
			lo = x
		}
		if x.Cmp(hi) > 0 {
			hi = x
		}
	}
	return ofBig(floor(lo), ceil(hi), a.Bits)
}

// arithmetic of two spans, held against that of ratios.
func arithmetic(t *testing.T, a, b api.Span) {
	t.Helper()
	what := fmt.Sprint(a, " ", b)
	got, e := span.Add(a, b)
	wants(t, "Add "+what, got, e, made(a, b, func(x, y *big.Rat) *big.Rat { return new(big.Rat).Add(x, y) }))
	got, e = span.Sub(a, b)
	wants(t, "Sub "+what, got, e, made(a, b, func(x, y *big.Rat) *big.Rat { return new(big.Rat).Sub(x, y) }))
	got, e = span.Mul(a, b)
	wants(t, "Mul "+what, got, e, made(a, b, func(x, y *big.Rat) *big.Rat { return new(big.Rat).Mul(x, y) }))
	got, e = span.Div(a, b)
	if num.Sign(b.Lo) <= 0 && num.Sign(b.Hi) >= 0 {
		refuses(t, "Div "+what, got, e, api.ErrNone)
		return
	}
	wants(t, "Div "+what, got, e, made(a, b, func(x, y *big.Rat) *big.Rat { return new(big.Rat).Quo(x, y) }))
}

// setLike: Meet, Hull and Order of two spans.
func setLike(t *testing.T, a, b api.Span) {
	t.Helper()
	what := fmt.Sprint(a, " ", b)
	lo, hi := ends(a)
	low, high := ends(b)
	got, e := span.Hull(a, b)
	wants(t, "Hull "+what, got, e, ofBig(least(lo, low), most(hi, high), a.Bits))
	got, e = span.Meet(a, b)
	n, f := span.Order(a, b)
	want := 0
	switch {
	case hi.Cmp(low) < 0:
		want = -1
	case high.Cmp(lo) < 0:
		want = 1
	}
	if want == 0 {
		wants(t, "Meet "+what, got, e, ofBig(most(lo, low), least(hi, high), a.Bits))
	} else {
		refuses(t, "Meet "+what, got, e, api.ErrNone)
	}
	if n != want || f != api.OK {
		t.Errorf("Order %s: it is %d, %v and must be %d", what, n, f, want)
	}
}

func least(a, b *big.Int) *big.Int {
	if a.Cmp(b) < 0 {
		return a
	}
	return b
}

func most(a, b *big.Int) *big.Int {
	if a.Cmp(b) > 0 {
		return a
	}
	return b
}

func TestA3A4SmallSpans(t *testing.T) {
	for _, bits := range []int{1, 2, 9} {
		all := small(4, bits)
		for _, a := range all {
			for _, b := range all {
				arithmetic(t, a, b)
				setLike(t, a, b)
			}
		}
	}
}

func TestA3A4GreatSpans(t *testing.T) {
	var d draw
	for range 1500 {
		bits := 1 + d.n(api.MaxBits)
		a, b := d.span(300, bits), d.span(300, bits)
		arithmetic(t, a, b)
		setLike(t, a, b)
	}
}

func TestA3Root(t *testing.T) {
	var d draw
	spans := append(small(5, 1), small(5, 7)...)
	for range 500 {
		spans = append(spans, d.span(400, 1+d.n(api.MaxBits)))
	}
	for _, s := range spans {
		got, e := span.Root(s)
		lo, hi := ends(s)
		if lo.Sign() < 0 {
			refuses(t, fmt.Sprint("Root ", s), got, e, api.ErrNone)
			continue
		}
		low := new(big.Int).Sqrt(lo.Lsh(lo, uint(s.Bits)))
		hi.Lsh(hi, uint(s.Bits))
		high := new(big.Int).Sqrt(hi)
		if new(big.Int).Mul(high, high).Cmp(hi) < 0 {
			high.Add(high, big.NewInt(1))
		}
		wants(t, fmt.Sprint("Root ", s), got, e, ofBig(low, high, s.Bits))
	}
}

func TestA3RootOfTheWidest(t *testing.T) {
	s := api.Span{Hi: num.Sub(num.Up(num.Of(1), api.MaxWide), num.Of(1)), Bits: 120}
	got, e := span.Root(s)
	wants(t, "Root", got, e, api.Span{Hi: num.Up(num.Of(1), (api.MaxWide+120)/2), Bits: 120})
}

func TestA3OtherBits(t *testing.T) {
	for _, c := range calls() {
		got, e := c.make(of(1, 2, 9), of(0, 20000, 10))
		refuses(t, c.name, got, e, api.ErrState) // ahead of ErrNone, which Div and Meet would tell
		got, e = c.make(of(5, 6, 10), of(0, 1, 9))
		refuses(t, c.name, got, e, api.ErrState)
	}
	if n, e := span.Order(of(1, 2, 9), of(5, 6, 10)); n != 0 || e != api.ErrState {
		t.Errorf("Order: it is %d, %v", n, e)
	}
}

func TestA3TooWide(t *testing.T) {
	top := num.Up(num.Of(1), api.MaxWide-1) // has just MaxWide bits
	full := num.Sub(num.Up(top, 1), num.Of(1))
	just := func(x num.Int) api.Span { return api.Span{Lo: x, Hi: x, Bits: 8} }
	one, tiny := of(256, 256, 8), of(1, 1, 8)
	for _, row := range []struct {
		name string
		make func(a, b api.Span) (api.Span, api.Errno)
		a, b api.Span
		want api.Errno
	}{
		{"Add", span.Add, just(full), tiny, api.ErrMany},
		{"Add", span.Add, just(num.Neg(full)), of(-1, 0, 8), api.ErrMany},
		{"Add", span.Add, just(full), just(num.Of(0)), api.OK},
		{"Sub", span.Sub, just(full), of(-1, -1, 8), api.ErrMany},
		{"Sub", span.Sub, just(full), just(full), api.OK},
		{"Mul", span.Mul, just(top), just(num.Of(512)), api.ErrMany},
		{"Mul", span.Mul, just(full), one, api.OK},
		{"Mul", span.Mul, just(full), tiny, api.OK},
		{"Div", span.Div, just(full), tiny, api.ErrMany},
		{"Div", span.Div, just(full), one, api.OK},
		{"Div", span.Div, just(full), of(0, 1, 8), api.ErrNone}, // ahead of ErrMany
		{"Hull", span.Hull, just(full), just(num.Neg(full)), api.OK},
	} {
		_, e := row.make(row.a, row.b)
		if e != row.want {
			t.Errorf("%s: it is %v and must be %v", row.name, e, row.want)
		}
	}
}

func TestA4Narrow(t *testing.T) {
	var d draw
	spans := append(small(4, 1), of(0, 1000000, 1), of(0, 1000000, 20))
	for range 400 {
		spans = append(spans, d.span(1+d.n(160), 1+d.n(api.MaxBits)))
	}
	for _, s := range spans {
		for _, n := range []int{0, 1, 2, 3, 4, 5, 1000, 999999, 1000000} {
			lo, hi := ends(s)
			width := new(big.Int).Sub(hi, lo)
			width.Lsh(width, uint(s.Bits))
			room := new(big.Int).Add(pow2(s.Bits), most(lo.Abs(lo), hi.Abs(hi)))
			want := width.Cmp(room.Mul(room, big.NewInt(int64(n)))) <= 0
			if got, e := span.Narrow(s, n); got != want || e != api.OK {
				t.Errorf("Narrow %v by %d: it is %v, %v and must be %v", s, n, got, e, want)
			}
		}
	}
}

func TestA4NarrowEdges(t *testing.T) {
	for _, row := range []struct {
		s    api.Span
		n    int
		want bool
		e    api.Errno
	}{
		{of(5, 5, 8), 0, true, api.OK},
		{of(5, 6, 8), 0, false, api.OK},
		{of(-2, 2, 1), 2, true, api.OK}, // 4 times 2 is 2 times (2 and 2)
		{of(-2, 2, 1), 1, false, api.OK},
		{of(-256, 0, 8), 128, true, api.OK}, // 256 times 256 is 128 times (256 and 256)
		{of(-256, 0, 8), 127, false, api.OK},
		{of(5, 5, 8), -1, false, api.ErrRange},
		{of(5, 5, 8), 1000001, false, api.ErrRange},
		{of(5, 5, 8), math.MinInt, false, api.ErrRange},
		{of(5, 5, 8), math.MaxInt, false, api.ErrRange},
	} {
		if got, e := span.Narrow(row.s, row.n); got != row.want || e != row.e {
			t.Errorf("Narrow %v by %d: it is %v, %v and must be %v, %v", row.s, row.n, got, e, row.want, row.e)
		}
	}
}

// part of a span: from some hundredths of it on, to some.
func part(s api.Span, from, to int) api.Span {
	lo, hi := ends(s)
	room := hi.Sub(hi, lo)
	at := func(n int) *big.Int {
		x := new(big.Int).Mul(room, big.NewInt(int64(n)))
		return x.Add(x.Div(x, big.NewInt(100)), lo)
	}
	return ofBig(at(from), at(to), s.Bits)
}

// TestA5: of numbers, and of spans, that are in others.
func TestA5(t *testing.T) {
	var d draw
	for range 2000 {
		bits := 1 + d.n(api.MaxBits)
		a, b := d.span(150, bits), d.span(150, bits)
		from, more := d.n(51), d.n(50)*d.n(2) // half of them are one number each
		less, other := part(a, from, from+more), part(b, more, more+from*d.n(2))
		for _, c := range calls() {
			all, e := c.make(a, b)
			some, f := c.make(less, other)
			if e == api.OK && f == api.OK && !inside(some, all) {
				t.Errorf("%s of less, %v and %v, is not in that of %v and %v", c.name, less, other, a, b)
			}
		}
		all, e := span.Root(a)
		some, f := span.Root(less)
		if e == api.OK && (f != api.OK || !inside(some, all)) {
			t.Errorf("Root of less, %v, is not in that of %v", less, a)
		}
	}
}
