package cplx_test

import (
	"math"
	"math/big"
	"testing"

	"runrig/cplx"
)

// Parts by their bits: the greatest number, the least normal one and its
// neighbour below, the least of all, infinity, NaN as it is told, and the signs.
const (
	minus    = 0x80000000
	one      = 0x3f800000
	greatest = 0x7f7fffff
	normal   = 0x00800000
	below    = 0x007fffff
	least    = 0x00000001
	inf      = 0x7f800000
	nan      = 0x7fc00000
)

// word of two parts' bits.
func word(re, im uint32) uint64 {
	return uint64(re) + uint64(im)*(1<<32)
}

// nans are of both signs, quiet and signalling, with the least and the greatest fraction.
var nans = []uint32{
	0x7f800001, 0x7f800002, 0x7fa00000, 0x7fbfffff, 0x7fc00000, 0x7fc00001, 0x7fffffff,
	0xff800001, 0xff800002, 0xffa00000, 0xffbfffff, 0xffc00000, 0xffc00001, 0xffffffff,
}

// edges are noughts, the least and the greatest numbers, those about one and
// about the least normal one, squares that pass the greatest or fall below the
// least, and infinities; of both signs.
func edges() []uint32 {
	var l []uint32
	for _, x := range []uint32{
		0, least, 2, 3, 0x00400000, 0x007ffffe, below, normal, normal + 1, 0x01000000,
		0x1a000000, 0x1a800000, 0x1a3504f3, 0x20000000, // 2^-75, 2^-74, about 2^-74.5, 2^-63
		0x33000000, 0x33800000, 0x34000000, // 2^-25, 2^-24, 2^-23
		0x3f000000, 0x3f7fffff, one, one + 1, 0x3fffffff, 0x40000000, 0x40400000, 0x40490fdb,
		0x4b7fffff, 0x4b800000, 0x4b800001, 0x5f000000, 0x5f7fffff, 0x5f800000, // 2^24 - 1, 2^24, 2^24 + 2, 2^63, 2^64
		0x72ffffff, 0x73000000, 0x73000001, 0x73800000, // about 2^103, the half of the greatest's last place, and 2^104
		0x7f000000, 0x7f7ffffe, greatest, inf,
	} {
		l = append(l, x, minus+x)
	}
	return l
}

// chance makes bits that are alike in each run.
type chance uint64

func (c *chance) next() uint32 {
	*c = *c*6364136223846793005 + 1442695040888963407
	return uint32(*c >> 33 * 3)
}

// near is a part whose exponent is among 16 from one on.
func (c *chance) near(from uint32) uint32 {
	x := c.next()
	return x&(minus+0x7fffff) + (from+c.next()%16)<<23
}

// number is what a part is: NaN, or an exact value, infinities and noughts with their signs.
type number struct {
	nan bool
	v   *big.Float
}

// number of bits, by the form: a sign, eight bits of the exponent, 23 of the fraction.
func numberOf(bits uint32) number {
	exponent, fraction := int(bits/(1<<23)%256), int64(bits%(1<<23))
	v := new(big.Float)
	switch {
	case exponent == 255 && fraction != 0:
		return number{nan: true}
	case exponent == 255:
		v.SetInf(false)
	case exponent == 0:
		v.SetMantExp(v.SetInt64(fraction), -149)
	default:
		v.SetMantExp(v.SetInt64(fraction+1<<23), exponent-150)
	}
	if bits >= minus {
		v.Neg(v)
	}
	return number{v: v}
}

// zero, but not NaN?
func (n number) zero() bool { return !n.nan && n.v.Sign() == 0 }

// infinite, of whichever sign?
func (n number) infinite() bool { return !n.nan && n.v.IsInf() }

// turned is a number with the other sign.
func (n number) turned() number {
	if n.nan {
		return n
	}
	return number{v: new(big.Float).Neg(n.v)}
}

// by another: exact, if prec is 48 or more.
func (n number) by(m number, prec uint) number {
	if n.nan || m.nan || n.zero() && m.infinite() || n.infinite() && m.zero() {
		return number{nan: true}
	}
	return number{v: new(big.Float).SetPrec(prec).Mul(n.v, m.v)}
}

// and another one, added, rounded to so many bits: of two to the even one.
func (n number) and(m number, prec uint) number {
	if n.nan || m.nan || n.infinite() && m.infinite() && n.v.Sign() != m.v.Sign() {
		return number{nan: true}
	}
	return number{v: new(big.Float).SetPrec(prec).Add(n.v, m.v)}
}

// told are a number's bits as binary32.
func (n number) told() uint32 {
	if n.nan {
		return nan
	}
	f, _ := n.v.Float32()
	return math.Float32bits(f)
}

// way of rounding: to how many bits a product is rounded, and to how many a sum, ahead of binary32.
type way struct{ product, sum uint }

var (
	form  = way{48, 53}  // the document's: products are exact, sums are binary64
	exact = way{48, 700} // no rounding ahead of the last one
	small = way{24, 24}  // binary32 all through (above the least normal number)
	fused = way{48, 24}  // products exact, sums binary32
)

func (w way) add(a, b uint64) uint64 {
	re := numberOf(uint32(a)).and(numberOf(uint32(b)), w.sum)
	im := numberOf(uint32(a>>32)).and(numberOf(uint32(b>>32)), w.sum)
	return word(re.told(), im.told())
}

func (w way) sub(a, b uint64) uint64 {
	re := numberOf(uint32(a)).and(numberOf(uint32(b)).turned(), w.sum)
	im := numberOf(uint32(a>>32)).and(numberOf(uint32(b>>32)).turned(), w.sum)
	return word(re.told(), im.told())
}

func (w way) mul(a, b uint64) uint64 {
	ar, ai, br, bi := numberOf(uint32(a)), numberOf(uint32(a>>32)), numberOf(uint32(b)), numberOf(uint32(b>>32))
	re := ar.by(br, w.product).and(ai.by(bi, w.product).turned(), w.sum)
	im := ar.by(bi, w.product).and(ai.by(br, w.product), w.sum)
	return word(re.told(), im.told())
}

func (w way) norm(a uint64) uint64 {
	re, im := numberOf(uint32(a)), numberOf(uint32(a>>32))
	return word(re.by(re, w.product).and(im.by(im, w.product), w.sum).told(), 0)
}

// conj by bits.
func conj(a uint64) uint64 {
	re, im := uint32(a), uint32(a>>32)
	if !numberOf(im).nan {
		im ^= minus
	}
	return word(numberOf(re).told(), numberOf(im).told())
}

// same holds an answer against what is asked.
func same(t *testing.T, what string, a, b, got, want uint64) {
	t.Helper()
	if got != want {
		t.Errorf("%s(%016x, %016x): %016x, not %016x", what, a, b, got, want)
	}
}

// pair holds all that is reckoned of two words against the form.
func pair(t *testing.T, a, b uint64) {
	t.Helper()
	same(t, "Add", a, b, cplx.Add(a, b), form.add(a, b))
	same(t, "Sub", a, b, cplx.Sub(a, b), form.sub(a, b))
	same(t, "Mul", a, b, cplx.Mul(a, b), form.mul(a, b))
	same(t, "Norm", a, 0, cplx.Norm(a), form.norm(a))
	same(t, "Conj", a, 0, cplx.Conj(a), conj(a))
}

// parts are the edges, NaNs, and some of all kinds.
func parts() []uint32 {
	l := append(edges(), nans...)
	c := chance(4)
	for range 200 {
		l = append(l, c.next())
	}
	return l
}

// P4.1: the lowest 32 bits are the real part, the highest the imaginary one.
func TestUnpackPack(t *testing.T) {
	for _, x := range []struct {
		w uint64
		c complex64
	}{
		{0, 0},
		{0x3f800000, 1},
		{0x3f80000000000000, 1i},
		{0x400000003f800000, 1 + 2i},
		{0xbf80000040400000, 3 - 1i},
		{0xc2f700003e800000, 0.25 - 123.5i},
		{0x000000007f7fffff, math.MaxFloat32},
		{0xff7fffff00000001, complex(math.SmallestNonzeroFloat32, -math.MaxFloat32)},
		{0x0080000080000001, complex(-math.SmallestNonzeroFloat32, 0x1p-126)},
	} {
		if g := cplx.Unpack(x.w); g != x.c {
			t.Errorf("Unpack(%016x): %v, not %v", x.w, g, x.c)
		}
		if g := cplx.Pack(x.c); g != x.w {
			t.Errorf("Pack(%v): %016x, not %016x", x.c, g, x.w)
		}
	}
}

// is tells whether a part that was answered is what its bits tell, a nought's sign too.
func is(f float32, bits uint32) bool {
	n := numberOf(bits)
	if n.nan || f != f {
		return n.nan && f != f
	}
	return big.NewFloat(float64(f)).Cmp(n.v) == 0 && math.Signbit(float64(f)) == n.v.Signbit()
}

// P4.1: all kinds of parts beside all kinds: neither part tells on the other, and
// a word without NaN comes back; one with NaN has it as 7FC00000.
func TestPartsApart(t *testing.T) {
	l := parts()
	for _, re := range l {
		for _, im := range l {
			w := word(re, im)
			c := cplx.Unpack(w)
			if !is(real(c), re) || !is(imag(c), im) {
				t.Errorf("Unpack(%016x): %v", w, c)
			}
			want := word(numberOf(re).told(), numberOf(im).told())
			if g := cplx.Pack(c); g != want {
				t.Errorf("Pack of Unpack(%016x): %016x", w, g)
			}
			if g := cplx.Pack(complex(math.Float32frombits(re), math.Float32frombits(im))); g != want {
				t.Errorf("Pack of the parts %08x and %08x: %016x", re, im, g)
			}
		}
	}
}

// P4.1: Pack tells each NaN as 7FC00000, and the other part as it is.
func TestPackNan(t *testing.T) {
	for _, n := range nans {
		f := math.Float32frombits(n)
		for _, x := range []struct {
			c    complex64
			want uint64
		}{
			{complex(f, f), 0x7fc000007fc00000},
			{complex(f, 0), 0x000000007fc00000},
			{complex(0, f), 0x7fc0000000000000},
			{complex(f, -1), 0xbf8000007fc00000},
			{complex(float32(math.Inf(-1)), f), 0x7fc00000ff800000},
		} {
			if g := cplx.Pack(x.c); g != x.want {
				t.Errorf("NaN %08x: Pack(%v): %016x, not %016x", n, x.c, g, x.want)
			}
		}
	}
}

// P4.1: Nan, of either part, of both and of none.
func TestNan(t *testing.T) {
	for _, n := range nans {
		for _, o := range append(edges(), nans...) {
			if !cplx.Nan(word(n, o)) || !cplx.Nan(word(o, n)) {
				t.Errorf("parts %08x and %08x: Nan is false", n, o)
			}
		}
	}
	for _, a := range edges() {
		for _, b := range edges() {
			if cplx.Nan(word(a, b)) {
				t.Errorf("Nan(%016x) is true", word(a, b))
			}
		}
	}
	c := chance(5)
	for range 20000 {
		re, im := c.next(), c.near(248)
		if want := numberOf(re).nan || numberOf(im).nan; cplx.Nan(word(re, im)) != want {
			t.Errorf("Nan(%016x) isn't %v", word(re, im), want)
		}
	}
}

// P4.1: Whole, of all there are.
func TestWhole(t *testing.T) {
	for _, x := range []struct {
		re, im int8
		want   uint64
	}{
		{0, 0, 0}, {1, 0, 0x000000003f800000}, {0, 1, 0x3f80000000000000}, {0, -1, 0xbf80000000000000},
		{3, -1, 0xbf80000040400000}, {-128, 127, 0x42fe0000c3000000}, {127, -128, 0xc300000042fe0000}, {-127, 126, 0x42fc0000c2fe0000},
	} {
		if g := cplx.Whole(x.re, x.im); g != x.want {
			t.Errorf("Whole(%d, %d): %016x, not %016x", x.re, x.im, g, x.want)
		}
	}
	for re := math.MinInt8; re <= math.MaxInt8; re++ {
		for im := math.MinInt8; im <= math.MaxInt8; im++ {
			w := cplx.Whole(int8(re), int8(im))
			r, i := numberOf(uint32(w)).v, numberOf(uint32(w>>32)).v
			if r == nil || i == nil || r.Cmp(big.NewFloat(float64(re))) != 0 || i.Cmp(big.NewFloat(float64(im))) != 0 {
				t.Errorf("Whole(%d, %d): %016x", re, im, w)
			}
			if re == 0 && uint32(w) != 0 || im == 0 && w>>32 != 0 {
				t.Errorf("Whole(%d, %d): %016x: a nought has a sign", re, im, w)
			}
		}
	}
}

// P4.2: ordinary numbers, the examples among them.
func TestReckonWhole(t *testing.T) {
	for _, x := range []struct {
		what      string
		got, want uint64
	}{
		{"(1+2i) + (3-1i)", cplx.Add(cplx.Whole(1, 2), cplx.Whole(3, -1)), cplx.Whole(4, 1)},
		{"(1+2i) - (3-1i)", cplx.Sub(cplx.Whole(1, 2), cplx.Whole(3, -1)), cplx.Whole(-2, 3)},
		{"(1+2i) by (3-1i)", cplx.Mul(cplx.Whole(1, 2), cplx.Whole(3, -1)), cplx.Whole(5, 5)},
		{"(3-1i) by (1+2i)", cplx.Mul(cplx.Whole(3, -1), cplx.Whole(1, 2)), cplx.Whole(5, 5)},
		{"(2+3i) by (5+7i)", cplx.Mul(cplx.Whole(2, 3), cplx.Whole(5, 7)), cplx.Whole(-11, 29)},
		{"1i by 1i", cplx.Mul(cplx.Whole(0, 1), cplx.Whole(0, 1)), cplx.Whole(-1, 0)},
		{"(2+3i) conjugated", cplx.Conj(cplx.Whole(2, 3)), cplx.Whole(2, -3)},
		{"(-2-3i) conjugated", cplx.Conj(cplx.Whole(-2, -3)), cplx.Whole(-2, 3)},
		{"norm of 3+4i", cplx.Norm(cplx.Whole(3, 4)), cplx.Whole(25, 0)},
		{"norm of -4-3i", cplx.Norm(cplx.Whole(-4, -3)), cplx.Whole(25, 0)},
		{"norm of 5i", cplx.Norm(cplx.Whole(0, 5)), cplx.Whole(25, 0)},
		{"norm of -128-128i", cplx.Norm(cplx.Whole(-128, -128)), word(0x47000000, 0)},
	} {
		if x.got != x.want {
			t.Errorf("%s: %016x, not %016x", x.what, x.got, x.want)
		}
	}
}

// P4.2: whole numbers that are small are reckoned without any rounding.
func TestReckonSmall(t *testing.T) {
	for ar := -4; ar <= 4; ar++ {
		for ai := -4; ai <= 4; ai++ {
			a := cplx.Whole(int8(ar), int8(ai))
			if g, want := cplx.Norm(a), cplx.Whole(int8(ar*ar+ai*ai), 0); g != want {
				t.Errorf("Norm of %d and %d: %016x, not %016x", ar, ai, g, want)
			}
			for br := -4; br <= 4; br++ {
				for bi := -4; bi <= 4; bi++ {
					b := cplx.Whole(int8(br), int8(bi))
					if g, want := cplx.Add(a, b), cplx.Whole(int8(ar+br), int8(ai+bi)); cplx.Unpack(g) != cplx.Unpack(want) {
						t.Errorf("Add(%d %d, %d %d): %016x, not %016x", ar, ai, br, bi, g, want)
					}
					if g, want := cplx.Sub(a, b), cplx.Whole(int8(ar-br), int8(ai-bi)); cplx.Unpack(g) != cplx.Unpack(want) {
						t.Errorf("Sub(%d %d, %d %d): %016x, not %016x", ar, ai, br, bi, g, want)
					}
					if g, want := cplx.Mul(a, b), cplx.Whole(int8(ar*br-ai*bi), int8(ar*bi+ai*br)); cplx.Unpack(g) != cplx.Unpack(want) {
						t.Errorf("Mul(%d %d, %d %d): %016x, not %016x", ar, ai, br, bi, g, want)
					}
				}
			}
		}
	}
}

// P4.2: noughts of both signs.
func TestNoughts(t *testing.T) {
	const p, m = 0, minus
	for _, x := range []struct {
		what      string
		got, want uint64
	}{
		{"0 + 0, -0 + -0", cplx.Add(word(p, m), word(p, m)), word(p, m)},
		{"0 + -0, -0 + 0", cplx.Add(word(p, m), word(m, p)), word(p, p)},
		{"0 - 0, -0 - -0", cplx.Sub(word(p, m), word(p, m)), word(p, p)},
		{"0 - -0, -0 - 0", cplx.Sub(word(p, m), word(m, p)), word(p, m)},
		{"1 - 1, -1 - -1", cplx.Sub(word(one, minus+one), word(one, minus+one)), word(p, p)},
		{"1 + -1, -1 + 1", cplx.Add(word(one, minus+one), word(minus+one, one)), word(p, p)},
		{"0+0i by 0+0i: 0 - 0, 0 + 0", cplx.Mul(word(p, p), word(p, p)), word(p, p)},
		{"-0+0i by 0+0i: -0 - 0, -0 + 0", cplx.Mul(word(m, p), word(p, p)), word(m, p)},
		{"0+0i by 0-0i: 0 - -0, -0 + 0", cplx.Mul(word(p, p), word(p, m)), word(p, p)},
		{"-0-0i by 0+0i: -0 - -0, -0 + -0", cplx.Mul(word(m, m), word(p, p)), word(p, m)},
		{"-1+0i by 0+1i: -0 - 0, -1 + 0", cplx.Mul(word(minus+one, p), word(p, one)), word(m, minus+one)},
		{"0+0i conjugated", cplx.Conj(word(p, p)), word(p, m)},
		{"-0-0i conjugated", cplx.Conj(word(m, m)), word(m, p)},
		{"norm of -0-0i", cplx.Norm(word(m, m)), word(p, p)},
	} {
		if x.got != x.want {
			t.Errorf("%s: %016x, not %016x", x.what, x.got, x.want)
		}
	}
}

// P4.2: sums that are rounded to the even one of two, pass the greatest number,
// or are below the least normal one, each in the real part and in the imaginary one.
func TestAddRounded(t *testing.T) {
	for _, x := range []struct{ a, b, want uint32 }{
		{one, 0x33800000, one},           // 1 + 2^-24: the even one is below
		{one + 1, 0x33800000, one + 2},   // the even one is above
		{one, 0x33800001, one + 1},       // a little more than the half
		{one + 1, 0x337fffff, one + 1},   // a little less
		{one, minus + 0x33000000, one},   // 1 - 2^-25: the even one is above
		{0x3f7fffff, 0x33000000, one},    // and so is this one
		{one, 0x3089705f, one},           // 1 and 1e-9
		{0x4b800000, one, 0x4b800000},    // 2^24 and 1
		{0x4b800001, one, 0x4b800002},    // 2^24 + 2 and 1
		{greatest, 0x73000000, inf},      // the half of a last place: the even one is beyond
		{greatest, 0x72ffffff, greatest}, // less than the half
		{greatest, greatest, inf},
		{0x7f000000, 0x7f000000, inf}, // 2^127 twice
		{0x7f000000, 0x7effffff, inf}, // 2^128 less the half of a last place
		{0x7f000000, 0x7efffffe, greatest},
		{least, least, 2}, // below the least normal number nothing is rounded
		{below, least, normal},
		{normal, minus + least, below},
		{normal, minus + 0x00800001, minus + least},
		{greatest, least, greatest},
		{inf, greatest, inf},
		{inf, inf, inf},
		{inf, minus + inf, nan},
		{inf, nan, nan},
	} {
		a, b, w := x.a, x.b, x.want
		opposite := w
		if w != nan {
			opposite ^= minus
		}
		same(t, "Add", uint64(a), uint64(b), cplx.Add(word(a, 0), word(b, 0)), word(w, 0))
		same(t, "Add", uint64(b), uint64(a), cplx.Add(word(0, b), word(0, a)), word(0, w))
		same(t, "Add", uint64(a^minus), uint64(b^minus), cplx.Add(word(a^minus, one), word(b^minus, 0)), word(opposite, one))
		same(t, "Sub", uint64(a), uint64(b^minus), cplx.Sub(word(a, 0), word(b^minus, 0)), word(w, 0))
		same(t, "Sub", uint64(a), uint64(b^minus), cplx.Sub(word(0, a), word(0, b^minus)), word(0, w))
	}
}

// P4.2: products of which the other one is nought, that are rounded to the even
// one of two, pass the greatest number, or fall below the least.
func TestMulRounded(t *testing.T) {
	for _, x := range []struct{ a, b, want uint32 }{
		{0x45800800, 0x45800800, 0x4b801000}, // 4097 by itself, 2^24 + 2^13 + 1: the even one is below
		{0x46ffff00, 0x45000000, 0x4c7fff00}, // 32767.5 by 2048: exact
		{0x45804800, 0x45801800, 0x4b80600e}, // 4105 by 4099 is 16826395: the even one is above
		{0x7f61b1e6, 0x41200000, inf},        // 3e38 by 10
		{greatest, one + 1, inf},
		{0x5f800000, 0x5f7fffff, greatest},   // 2^64 by its neighbour below
		{0x5f800000, 0x5f800000, inf},        // 2^128
		{0x0da24260, 0x0da24260, 0},          // 1e-30 by itself
		{0x1e3ce508, 0x1e3ce508, 0x000116c2}, // 1e-20 by itself, below the least normal number
		{least, 0x3f000000, 0},               // the half of the least: the even one is nought
		{3, 0x3f000000, 2},                   // one and a half
		{least, 0x3f000001, least},           // a little more than the half
		{0x1a000000, 0x1a000000, 0},          // 2^-75 by itself is the half of the least
		{0x1a000000, 0x1a000001, least},
		{0x1a000000, minus + 0x1a000000, minus}, // and from the other side
		{normal, 0x3f7fffff, normal},            // a last place of the least normal one less by its half
		{normal, 0x3f7ffffe, below},
		{inf, one, inf},
		{inf, minus + least, minus + inf},
		{minus + inf, minus + inf, inf},
		{inf, 0, nan},
		{minus, inf, nan},
		{nan, 0, nan},
		{one, nan, nan},
	} {
		for _, p := range [][2]uint32{{x.a, x.b}, {x.b, x.a}} {
			a, b := word(p[0], 0), word(p[1], 0)
			if g := uint32(cplx.Mul(a, b)); g != x.want {
				t.Errorf("Mul(%016x, %016x): real %08x, not %08x", a, b, g, x.want)
			}
			b = word(0, p[1])
			if g := uint32(cplx.Mul(a, b) >> 32); g != x.want {
				t.Errorf("Mul(%016x, %016x): imaginary %08x, not %08x", a, b, g, x.want)
			}
		}
	}
}

// P4.2: an infinity beside a nought makes NaN of the other part: nothing mends it.
func TestMulInfinite(t *testing.T) {
	for _, x := range []struct{ a, b, want uint64 }{
		{word(inf, 0), word(one, 0), word(inf, nan)},
		{word(inf, inf), word(one, one), word(nan, inf)},
		{word(inf, one), word(one, one), word(inf, inf)},
		{word(inf, one), word(inf, one), word(inf, inf)},
		{word(inf, inf), word(inf, inf), word(nan, inf)},
		{word(inf, minus+inf), word(inf, minus+inf), word(nan, minus+inf)},
		{word(0, inf), word(0, inf), word(minus+inf, nan)},
		{word(one, inf), word(one, inf), word(minus+inf, inf)},
		{word(nan, one), word(one, one), word(nan, nan)},
		{word(one, one), word(one, 0xff800001), word(nan, nan)},
		{word(greatest, greatest), word(greatest, greatest), word(0, inf)},
	} {
		same(t, "Mul", x.a, x.b, cplx.Mul(x.a, x.b), x.want)
		same(t, "Mul", x.b, x.a, cplx.Mul(x.b, x.a), x.want)
	}
}

// turnBoth is a word with the signs of both parts turned.
func turnBoth(w uint64) uint64 { return w ^ word(minus, minus) }

// part holds one part of an answer, by its shift, against what is asked.
func part(t *testing.T, what string, got uint64, shift int, want uint32) {
	t.Helper()
	if g := uint32(got >> shift); g != want {
		t.Errorf("%s: %08x, not %08x", what, g, want)
	}
}

// P4.2: sums about 2^128 - 2^103, from which on a part is infinite: there, and at
// the next ones on both sides to which two parts come; of both signs, in each part.
func TestSumsAboutInfinite(t *testing.T) {
	for _, x := range []struct{ a, b, want uint32 }{
		{greatest, 0x72ffffff, greatest}, // by 2^103 - 2^79 beyond the greatest
		{greatest, 0x73000000, inf},      // by 2^103
		{greatest, 0x73000001, inf},      // by 2^103 + 2^80
		{greatest, least, greatest},
		{greatest - 1, 0x73bfffff, greatest}, // the same from the greatest's neighbour
		{greatest - 1, 0x73c00000, inf},
		{greatest - 1, 0x73c00001, inf},
		{greatest, 0x73800000, inf}, // 2^128
		{greatest, greatest, inf},
	} {
		for _, s := range []uint32{0, minus} {
			a, b, want := x.a^s, x.b^s, x.want^s
			for _, p := range [][2]uint32{{a, b}, {b, a}} {
				same(t, "Add, real", uint64(p[0]), uint64(p[1]), cplx.Add(word(p[0], one), word(p[1], 0)), word(want, one))
				same(t, "Add, imaginary", uint64(p[0]), uint64(p[1]), cplx.Add(word(0, p[0]), word(one, p[1])), word(one, want))
				same(t, "Add, both", uint64(p[0]), uint64(p[1]), cplx.Add(word(p[0], p[1]^minus), word(p[1], p[0]^minus)), word(want, want^minus))
				same(t, "Sub, real", uint64(p[0]), uint64(p[1]), cplx.Sub(word(p[0], one), word(p[1]^minus, 0)), word(want, one))
				same(t, "Sub, imaginary", uint64(p[0]), uint64(p[1]), cplx.Sub(word(one, p[0]), word(0, p[1]^minus)), word(one, want))
				same(t, "Sub, both", uint64(p[0]), uint64(p[1]), cplx.Sub(word(p[0], p[1]^minus), word(p[1]^minus, p[0])), word(want, want^minus))
			}
		}
	}
}

// P4.2: sums of products that are 2^128 - 2^103 and its neighbours of binary64, on
// both sides, of both signs, in each part.
func TestProductsAboutInfinite(t *testing.T) {
	const edge = 0x1p128 - 0x1p103
	for _, n := range []struct {
		x, y float32 // by their product a sum is beyond the greatest
		sum  float64
		want uint32
	}{
		{0x3fffp60, 0x4001p15, math.Nextafter(edge, 0), greatest}, // 2^103 - 2^75
		{0x1p60, 0x1p43, edge, inf},
		{0x11p60, 0xf0f0f1p15, math.Nextafter(edge, math.Inf(1)), inf}, // 2^103 + 2^75
		{0x1p60, 0x1p44, 0x1p128, inf},
		{0x1p60, 0x1p15, math.MaxFloat32 + 0x1p75, greatest},
		{0x1p60, -0x1p15, math.MaxFloat32 - 0x1p75, greatest},
	} {
		if sum := math.MaxFloat32 + float64(n.x)*float64(n.y); sum != n.sum {
			t.Errorf("%x by %x: the sum is %x, not %x", n.x, n.y, sum, n.sum)
		}
		x, y := math.Float32bits(n.x), math.Float32bits(n.y)
		a, re, im := word(greatest, x), word(one, y^minus), word(y, one)
		part(t, "Mul, real", cplx.Mul(a, re), 0, n.want)
		part(t, "Mul, real", cplx.Mul(re, a), 0, n.want)
		part(t, "Mul, real, below nought", cplx.Mul(turnBoth(a), re), 0, n.want^minus)
		part(t, "Mul, real, below nought", cplx.Mul(a, turnBoth(re)), 0, n.want^minus)
		part(t, "Mul, imaginary", cplx.Mul(a, im), 32, n.want)
		part(t, "Mul, imaginary", cplx.Mul(im, a), 32, n.want)
		part(t, "Mul, imaginary, below nought", cplx.Mul(turnBoth(a), im), 32, n.want^minus)
		part(t, "Mul, imaginary, below nought", cplx.Mul(a, turnBoth(im)), 32, n.want^minus)
		for _, b := range []uint64{re, im, turnBoth(re), turnBoth(im)} {
			pair(t, a, b)
			pair(t, b, a)
		}
	}
}

// P4.2: norms about 2^128 - 2^103: the next ones on both sides to which two
// squares come (none comes to it), by parts of both signs.
func TestNormsAboutInfinite(t *testing.T) {
	const edge, place = 0x1p128 - 0x1p103, 0x1p75 // place: binary64's last one there
	for _, x := range []struct {
		re, im uint32
		sum    float64
		want   uint32
	}{
		{0x5f7ffffe, 0x59ef7750, edge - 2*place, greatest},
		{0x5f7fde74, 0x5d0309df, edge + 8*place, inf},
		{0x5f7fffff, 0, 0x1p128 - 0x1p105 + 0x1p80, 0x7f7ffffe},
		{0x5f800000, 0, 0x1p128, inf},
		{greatest, greatest, 2 * math.MaxFloat32 * math.MaxFloat32, inf},
	} {
		re, im := float64(math.Float32frombits(x.re)), float64(math.Float32frombits(x.im))
		if sum := re*re + im*im; sum != x.sum {
			t.Errorf("norm of %08x and %08x: the sum is %x, not %x", x.re, x.im, sum, x.sum)
		}
		for _, s := range []uint64{0, word(minus, 0), word(0, minus), word(minus, minus)} {
			a, b := word(x.re, x.im)^s, word(x.im, x.re)^s
			same(t, "Norm", a, 0, cplx.Norm(a), word(x.want, 0))
			same(t, "Norm", b, 0, cplx.Norm(b), word(x.want, 0))
			same(t, "Norm", a, 0, cplx.Norm(a), form.norm(a))
		}
	}
}

// P4.2: Norm passes the greatest number, falls below the least, and is NaN
// beside an infinity too; its imaginary part is 0 always.
func TestNormEdges(t *testing.T) {
	for _, x := range []struct{ re, im, want uint32 }{
		{greatest, 0, inf}, {0, minus + greatest, inf}, {0x5f7fffff, 0, 0x7f7ffffe}, {0x5f7fffff, 0x5f7fffff, inf},
		{least, least, 0}, {0x1a000000, 0, 0}, {0x1a000000, 0x1a000000, least}, {0x1a800000, 0x1a800000, 4},
		{inf, 0, inf}, {minus + inf, inf, inf}, {inf, nan, nan}, {nan, minus + inf, nan}, {nan, 0, nan}, {0, 0xff800001, nan}, {nan, nan, nan},
	} {
		a := word(x.re, x.im)
		same(t, "Norm", a, 0, cplx.Norm(a), word(x.want, 0))
	}
}

// P4.2: each NaN is told as 7FC00000, in that part alone to which it comes.
func TestNanTold(t *testing.T) {
	for _, n := range nans {
		for _, x := range []struct {
			what      string
			got, want uint64
		}{
			{"Add, real", cplx.Add(word(n, one), word(one, one)), word(nan, 0x40000000)},
			{"Add, imaginary", cplx.Add(word(one, one), word(one, n)), word(0x40000000, nan)},
			{"Sub, real", cplx.Sub(word(one, one), word(n, one)), word(nan, 0)},
			{"Sub, imaginary", cplx.Sub(word(one, n), word(one, one)), word(0, nan)},
			{"Add of two", cplx.Add(word(n, n), word(n, n)), word(nan, nan)},
			{"Mul, real", cplx.Mul(word(n, one), word(one, 0)), word(nan, nan)},
			{"Mul, imaginary", cplx.Mul(word(one, 0), word(one, n)), word(nan, nan)},
			{"Conj, real", cplx.Conj(word(n, one)), word(nan, minus+one)},
			{"Conj, imaginary", cplx.Conj(word(one, n)), word(one, nan)},
			{"Conj, both", cplx.Conj(word(n, n)), word(nan, nan)},
			{"Norm, real", cplx.Norm(word(n, one)), word(nan, 0)},
			{"Norm, imaginary", cplx.Norm(word(inf, n)), word(nan, 0)},
		} {
			if x.got != x.want {
				t.Errorf("NaN %08x: %s: %016x, not %016x", n, x.what, x.got, x.want)
			}
		}
	}
}

// P4.2: binary64 at each sum, then binary32: inputs at which other ways of
// rounding answer something else. (Of Add and Sub there are none: binary64 has
// more than twice the bits, so that rounding twice comes to rounding once.)
func TestRoundedTwice(t *testing.T) {
	const (
		to16785409 = 0x45800800 // 4097: its square is 16785409, between two of binary32
		half       = 0x1a000000 // 2^-75: its square is the half of the least number
		by         = 0x4828e840 // 172961, by 97 it is 2^24 + 1
	)
	for _, x := range []struct {
		what      string
		got, want uint64
		other     []uint64
	}{
		{"Norm, to the even one though there is a little more", cplx.Norm(word(to16785409, 0x35800000)), word(0x4b801000, 0),
			[]uint64{exact.norm(word(to16785409, 0x35800000)), fused.norm(word(to16785409, 0x35800000))}},
		{"Norm, of which a square is not rounded to binary32", cplx.Norm(word(to16785409, one)), word(0x4b801001, 0),
			[]uint64{small.norm(word(to16785409, one))}},
		{"Norm, to nought though there is more than the half of the least", cplx.Norm(word(half, least)), word(0, 0),
			[]uint64{exact.norm(word(half, least))}},
		{"Mul, real, to the even one", cplx.Mul(word(0x42c20000, minus+0x30800000), word(by, 0x30800000)), word(0x4b800000, 0xb928d000),
			[]uint64{exact.mul(word(0x42c20000, minus+0x30800000), word(by, 0x30800000))}},
		{"Mul, imaginary, to the even one", cplx.Mul(word(0x42c20000, 0x30800000), word(0x30800000, by)), word(0xb928d000, 0x4b800000),
			[]uint64{exact.mul(word(0x42c20000, 0x30800000), word(0x30800000, by))}},
		{"Mul, real, of which a product is not rounded to binary32", cplx.Mul(word(to16785409, one), word(to16785409, minus+one)), word(0x4b801001, 0),
			[]uint64{small.mul(word(to16785409, one), word(to16785409, minus+one))}},
		{"Mul, imaginary, of which a product is not rounded to binary32", cplx.Mul(word(to16785409, one), word(one, to16785409)), word(0, 0x4b801001),
			[]uint64{small.mul(word(to16785409, one), word(one, to16785409))}},
		{"Mul, real, infinite though it is less than the half beyond the greatest", cplx.Mul(word(0x5af80000, one), word(0x64042108, one)), word(inf, 0x64042127),
			[]uint64{exact.mul(word(0x5af80000, one), word(0x64042108, one))}},
	} {
		if x.got != x.want {
			t.Errorf("%s: %016x, not %016x", x.what, x.got, x.want)
		}
		for _, o := range x.other {
			if o == x.want {
				t.Errorf("%s: another way of rounding answers %016x too", x.what, o)
			}
		}
	}
}

// P4.2: all pairs of edges and NaNs as real parts, beside others as imaginary ones.
func TestPairsOfEdges(t *testing.T) {
	l := append(edges(), nans...)
	for i, a := range l {
		for j, b := range l {
			pair(t, word(a, 0), word(b, 0))
			pair(t, word(a, l[(i+j)%len(l)]), word(b, l[(7*i+3*j+5)%len(l)]))
			pair(t, word(l[(i+11*j)%len(l)], a), word(l[(5*i+j)%len(l)], b))
		}
	}
}

// P4.2: four parts, each of few kinds.
func TestFoursOfEdges(t *testing.T) {
	l := []uint32{0, minus, least, minus + least, below, one, minus + one, 0x1a000000, greatest, minus + greatest, inf, minus + inf, 0xffa00000}
	for _, ar := range l {
		for _, ai := range l {
			for _, br := range l {
				for _, bi := range l {
					pair(t, word(ar, ai), word(br, bi))
				}
			}
		}
	}
}

// P4.2: parts of all kinds, then such as are near each other about one, about
// roots of the least and of the greatest, and about the ends.
func TestMany(t *testing.T) {
	c := chance(1)
	for range 20000 {
		pair(t, word(c.next(), c.next()), word(c.next(), c.next()))
	}
	for _, from := range []uint32{0, 45, 58, 120, 182, 239} {
		for range 8000 {
			pair(t, word(c.near(from), c.near(from)), word(c.near(from), c.near(from)))
		}
	}
}

// P4.2: sums of products of which the greater one lies between two of binary32
// and the lesser one is told by binary64 or isn't.
func TestManyRoundedTwice(t *testing.T) {
	c := chance(2)
	apart := 0
	for range 20000 {
		x := math.Float32bits(float32(4097 + 2*(c.next()%800))) // its square is odd, of 25 bits: between two
		y := c.next()%0x800000 + (100+c.next()%28)<<23
		for _, w := range [][2]uint64{{word(x, y), word(x, y)}, {word(x, y), word(x, minus+y)}, {word(x, y), word(y, x)}, {word(x, minus+y), word(y, x)}} {
			pair(t, w[0], w[1])
			if form.norm(w[0]) != exact.norm(w[0]) {
				apart++
			}
		}
	}
	if apart < 100 {
		t.Errorf("at %d of them alone it counts how a norm is rounded", apart)
	}
}
