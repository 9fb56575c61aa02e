package span_test

import (
	"math/big"
	"slices"
	"testing"

	"tailsure/api"
	"tailsure/num"
	"tailsure/span"
)

// toBig: a number of package num as one of the library.
func toBig(a num.Int) *big.Int {
	out := new(big.Int)
	for i := len(a.Digits) - 1; i >= 0; i-- {
		out.Add(out.Lsh(out, 16), big.NewInt(int64(a.Digits[i])))
	}
	if a.Neg {
		out.Neg(out)
	}
	return out
}

// toNum: a number of the library as one of package num.
func toNum(a *big.Int) num.Int {
	var digits []uint16
	for b := new(big.Int).Abs(a); b.Sign() > 0; b.Rsh(b, 16) {
		digits = append(digits, uint16(b.Uint64()))
	}
	return num.Int{Neg: a.Sign() < 0, Digits: digits}
}

// floor and ceil of a ratio of the library.
func floor(r *big.Rat) *big.Int { return new(big.Int).Div(r.Num(), r.Denom()) } // Div rounds down where the lower one is more than 0
func ceil(r *big.Rat) *big.Int {
	up := floor(new(big.Rat).Neg(r))
	return up.Neg(up)
}

// pow2: 2 to the power of k.
func pow2(k int) *big.Int { return new(big.Int).Lsh(big.NewInt(1), uint(k)) }

// of: a span of small ends.
func of(lo, hi, bits int) api.Span { return api.Span{Lo: num.Of(lo), Hi: num.Of(hi), Bits: bits} }

// ofBig: a span of any ends.
func ofBig(lo, hi *big.Int, bits int) api.Span {
	return api.Span{Lo: toNum(lo), Hi: toNum(hi), Bits: bits}
}

// same: have both the same ends, bits and form?
func same(a, b api.Span) bool {
	alike := func(x, y num.Int) bool { return x.Neg == y.Neg && slices.Equal(x.Digits, y.Digits) }
	return alike(a.Lo, b.Lo) && alike(a.Hi, b.Hi) && a.Bits == b.Bits
}

// wants that a call answered this span, and no error.
func wants(t *testing.T, what string, got api.Span, e api.Errno, want api.Span) {
	t.Helper()
	if e != api.OK || !same(got, want) {
		t.Errorf("%s: it is %v, %v and must be %v", what, got, e, want)
	}
}

// refuses: a call answered this error, and nothing beside it.
func refuses(t *testing.T, what string, got api.Span, e, want api.Errno) {
	t.Helper()
	if e != want || !same(got, api.Span{}) {
		t.Errorf("%s: it is %v, error %v and must be error %v", what, got, e, want)
	}
}

// draw: numbers that look like chance, the same each time.
type draw uint64

func (d *draw) n(n int) int {
	*d = *d*6364136223846793005 + 1442695040888963407
	return int(uint64(*d) >> 33 % uint64(n))
}

// whole number of at most so many bits, of both signs.
func (d *draw) whole(bits int) *big.Int {
	out := new(big.Int)
	for range d.n(bits + 1) {
		out.Add(out.Lsh(out, 1), big.NewInt(int64(d.n(2))))
	}
	if d.n(2) == 0 {
		out.Neg(out)
	}
	return out
}

// span by so many bits.
func (d *draw) span(wide, bits int) api.Span {
	a, b := d.whole(wide), d.whole(wide)
	if a.Cmp(b) > 0 {
		a, b = b, a
	}
	return ofBig(a, b, bits)
}

// call is a call of two spans that answers one.
type call struct {
	name string
	make func(a, b api.Span) (api.Span, api.Errno)
}

func calls() []call {
	return []call{
		{"Add", span.Add}, {"Sub", span.Sub}, {"Mul", span.Mul},
		{"Div", span.Div}, {"Meet", span.Meet}, {"Hull", span.Hull},
	}
}

// small: all spans by so many bits whose ends are from -n to n.
func small(n, bits int) []api.Span {
	var out []api.Span
	for lo := -n; lo <= n; lo++ {
		for hi := lo; hi <= n; hi++ {
			out = append(out, of(lo, hi, bits))
		}
	}
	return out
}

// ends of a span, as they are without their bits.
func ends(s api.Span) (*big.Int, *big.Int) { return toBig(s.Lo), toBig(s.Hi) }

// inside: is all of the first one in the second one?
func inside(a, b api.Span) bool {
	return a.Bits == b.Bits && num.Cmp(b.Lo, a.Lo) <= 0 && num.Cmp(a.Hi, b.Hi) <= 0
}
