package pte_test

import (
	"math"
	"testing"

	"runrig/api"
	"runrig/pte"
)

const (
	all     = math.MaxUint64
	mostPpn = 1<<44 - 1
)

// noLevels are levels that aren't: those just outside, near the ends of int, and
// those that are one in 2, 8, 16, 32 or 63 bits, or times nine.
var noLevels = []int{
	-1, -2, -3, -4, -7, -8, -9, -64, -255, -256, -65536,
	3, 4, 5, 6, 7, 8, 9, 63, 64, 128, 255, 256, 257, 258, 65536, 65537, 65538,
	math.MaxInt32, math.MaxInt32 + 1, math.MinInt32, math.MinInt32 - 1, 1 << 32, 1<<32 + 1, 1<<32 + 2, -1 << 32, -1<<32 + 1,
	1 << 61, 1 << 62, 1<<62 + 1, -1 << 62, math.MaxInt/9 - 1, math.MaxInt / 9, math.MaxInt/9 + 1, math.MinInt / 9,
	math.MaxInt, math.MaxInt - 1, math.MaxInt - 2, math.MinInt, math.MinInt + 1, math.MinInt + 2,
}

// row is a word's bits, the lowest one first.
type row [64]bool

// of a word, by dividing.
func of(w uint64) row {
	var r row
	for i := range r {
		r[i] = w%2 == 1
		w /= 2
	}
	return r
}

// number of the row's n bits from a place on.
func (r row) number(at, n int) uint64 {
	var v uint64
	for i := n - 1; i >= 0; i-- {
		v *= 2
		if r[at+i] {
			v++
		}
	}
	return v
}

// lay a number's lowest n bits.
func (r *row) lay(v uint64, at, n int) {
	from := of(v)
	copy(r[at:at+n], from[:n])
}

// lowest n bits of a whole number, by its remainder, which is from 0 on.
func lowest(v, n int) uint64 {
	m := 1 << n
	return uint64((v%m + m) % m)
}

// put is what Put should be.
func put(p api.Pte) uint64 {
	r := row{p.V, p.R, p.W, p.X, p.U, p.G, p.A, p.D}
	r.lay(lowest(p.Rsw, 2), 8, 2)
	r.lay(p.Ppn, 10, 44)
	return r.number(0, 64)
}

// get is what Get should be.
func get(w uint64) (api.Pte, bool) {
	r := of(w)
	return api.Pte{
		V: r[0], R: r[1], W: r[2], X: r[3], U: r[4], G: r[5], A: r[6], D: r[7],
		Rsw: int(r.number(8, 2)), Ppn: r.number(10, 44),
	}, r.number(54, 10) == 0
}

// putSatp is what PutSatp should be.
func putSatp(s api.Satp) uint64 {
	var r row
	r.lay(s.Ppn, 0, 44)
	r.lay(lowest(s.Asid, 16), 44, 16)
	r[63] = s.On
	return r.number(0, 64)
}

// join is what Join should be, of a level that is one.
func join(ppn, va uint64, level int) uint64 {
	var r row
	r.lay(ppn, 12, 52)
	r.lay(va, 0, 12+9*level)
	return r.number(0, 64)
}

// chance makes words that are alike in each run.
type chance uint64

func (c *chance) next() uint64 {
	*c = *c*6364136223846793005 + 1442695040888963407
	return uint64(*c)*0x9e3779b97f4a7c15 ^ uint64(*c)>>29
}

// words: none, all, each bit alone, all but one, all below one, all from one on, and mixed ones.
func words() []uint64 {
	l := []uint64{0, all, 0x8c7, 0x0123456789abcdef, 0xfedcba9876543210, 0x5555555555555555, 0xaaaaaaaaaaaaaaaa}
	for i := range 64 {
		bit := uint64(1) << i
		l = append(l, bit, ^bit, bit-1, ^(bit - 1))
	}
	c := chance(8)
	for range 200 {
		l = append(l, c.next())
	}
	return l
}

// flagged is an entry with those flags that a number from 0 to 255 has as bits.
func flagged(flags int) api.Pte {
	r := of(uint64(flags))
	return api.Pte{V: r[0], R: r[1], W: r[2], X: r[3], U: r[4], G: r[5], A: r[6], D: r[7]}
}

// full is an entry with all bits.
func full() api.Pte {
	p := flagged(255)
	p.Rsw, p.Ppn = 3, mostPpn
	return p
}

// P8.1: the chapter's example.
func TestExample(t *testing.T) {
	p := api.Pte{V: true, R: true, W: true, A: true, D: true, Ppn: 2}
	if w := pte.Put(p); w != 0x8c7 {
		t.Errorf("Put: %x", w)
	}
	if g, ok := pte.Get(0x8c7); g != p || !ok {
		t.Errorf("Get: %+v, %v", g, ok)
	}
}

// P8.1: each flag alone in its place, none, and all of every setting.
func TestPutFlags(t *testing.T) {
	for _, x := range []struct {
		p api.Pte
		w uint64
	}{
		{api.Pte{}, 0},
		{api.Pte{V: true}, 0x01},
		{api.Pte{R: true}, 0x02},
		{api.Pte{W: true}, 0x04},
		{api.Pte{X: true}, 0x08},
		{api.Pte{U: true}, 0x10},
		{api.Pte{G: true}, 0x20},
		{api.Pte{A: true}, 0x40},
		{api.Pte{D: true}, 0x80},
		{api.Pte{Rsw: 1}, 0x100},
		{api.Pte{Rsw: 2}, 0x200},
		{api.Pte{Ppn: 1}, 0x400},
		{api.Pte{Ppn: 1 << 43}, 0x20000000000000},
		{api.Pte{V: true, R: true, W: true, X: true, U: true, G: true, A: true, D: true}, 0xff},
		{api.Pte{V: true, R: true, X: true, U: true, A: true, Ppn: 0x12345}, 0x48d145b},
		{full(), 0x3fffffffffffff},
	} {
		if w := pte.Put(x.p); w != x.w {
			t.Errorf("Put(%+v): %x, not %x", x.p, w, x.w)
		}
	}
	for flags := range 256 {
		if w := pte.Put(flagged(flags)); w != uint64(flags) {
			t.Errorf("Put(%+v): %x, not %x", flagged(flags), w, flags)
		}
	}
}

// P8.1: of Rsw the lowest two bits count, whatever the number is, and change nothing else.
func TestPutRsw(t *testing.T) {
	for _, x := range []struct {
		rsw  int
		bits uint64
	}{
		{0, 0}, {1, 1}, {2, 2}, {3, 3}, {4, 0}, {5, 1}, {6, 2}, {7, 3}, {8, 0}, {11, 3}, {252, 0}, {255, 3}, {256, 0}, {1<<32 + 2, 2},
		{-1, 3}, {-2, 2}, {-3, 1}, {-4, 0}, {-5, 3}, {-6, 2}, {-256, 0}, {-257, 3}, {-1<<32 + 1, 1},
		{math.MaxInt, 3}, {math.MaxInt - 1, 2}, {math.MaxInt - 2, 1}, {math.MaxInt - 3, 0},
		{math.MinInt, 0}, {math.MinInt + 1, 1}, {math.MinInt + 2, 2}, {math.MinInt + 3, 3},
	} {
		for _, p := range []api.Pte{{}, {V: true, D: true, Ppn: 1}, full()} {
			p.Rsw = 0
			base := put(p)
			p.Rsw = x.rsw
			if w := pte.Put(p); w != base+x.bits*0x100 {
				t.Errorf("Put(%+v): %x, not %x", p, w, base+x.bits*0x100)
			}
		}
	}
}

// P8.1: of Ppn the lowest 44 bits count, and change nothing else.
func TestPutPpn(t *testing.T) {
	for _, x := range []struct{ ppn, kept uint64 }{
		{0, 0}, {1, 1}, {2, 2}, {0x801, 0x801}, {mostPpn - 1, mostPpn - 1}, {mostPpn, mostPpn},
		{mostPpn + 1, 0}, {mostPpn + 2, 1}, {1<<45 - 1, mostPpn}, {1 << 45, 0}, {1 << 53, 0}, {1 << 54, 0}, {1 << 63, 0},
		{1<<63 + 7, 7}, {all - 1, mostPpn - 1}, {all, mostPpn},
	} {
		for _, p := range []api.Pte{{}, {W: true, Rsw: 1}, full()} {
			p.Ppn = 0
			base := put(p)
			p.Ppn = x.ppn
			if w := pte.Put(p); w != base+x.kept*0x400 {
				t.Errorf("Put(%+v): %x, not %x", p, w, base+x.kept*0x400)
			}
		}
	}
	for _, ppn := range words() {
		p := api.Pte{V: true, Ppn: ppn}
		if w := pte.Put(p); w != put(p) {
			t.Errorf("Put(%+v): %x, not %x", p, w, put(p))
		}
	}
}

// P8.1: each bit alone is its flag, or one of its number; those above bit 53 are none.
func TestGetBits(t *testing.T) {
	for i, p := range []api.Pte{
		{V: true}, {R: true}, {W: true}, {X: true}, {U: true}, {G: true}, {A: true}, {D: true}, {Rsw: 1}, {Rsw: 2},
	} {
		if g, ok := pte.Get(1 << i); g != p || !ok {
			t.Errorf("Get of bit %d: %+v, %v", i, g, ok)
		}
	}
	for i := 10; i < 54; i++ {
		if g, ok := pte.Get(1 << i); g != (api.Pte{Ppn: 1 << (i - 10)}) || !ok {
			t.Errorf("Get of bit %d: %+v, %v", i, g, ok)
		}
	}
	for i := 54; i < 64; i++ {
		if g, ok := pte.Get(1 << i); g != (api.Pte{}) || ok {
			t.Errorf("Get of bit %d: %+v, %v", i, g, ok)
		}
	}
	if g, ok := pte.Get(0); g != (api.Pte{}) || !ok {
		t.Errorf("Get(0): %+v, %v", g, ok)
	}
	if g, ok := pte.Get(all); g != full() || ok {
		t.Errorf("Get of all: %+v, %v", g, ok)
	}
	if g, ok := pte.Get(1<<54 - 1); g != full() || !ok {
		t.Errorf("Get of all to bit 53: %+v, %v", g, ok)
	}
}

// P8.1: beside false stands the entry that the word without its other bits has.
func TestGetOther(t *testing.T) {
	for _, w := range words() {
		w &= 1<<54 - 1
		p, _ := get(w)
		if g, ok := pte.Get(w); g != p || !ok {
			t.Fatalf("Get(%x): %+v, %v", w, g, ok)
		}
		for other := uint64(1); other < 1<<10; other++ {
			if g, ok := pte.Get(w | other<<54); g != p || ok {
				t.Fatalf("Get(%x): %+v, %v", w|other<<54, g, ok)
			}
		}
	}
}

// P8.1: Get of what Put answers is the entry that was put, its numbers cut; Put of
// what Get answers is the word, without its other bits.
func TestPutGet(t *testing.T) {
	for flags := range 256 {
		for _, rsw := range []int{0, 1, 2, 3, 4, -1, math.MaxInt, math.MinInt} {
			for _, ppn := range []uint64{0, 1, 0x123456789ab, mostPpn, mostPpn + 1, all} {
				p := flagged(flags)
				p.Rsw, p.Ppn = rsw, ppn
				w := pte.Put(p)
				if w != put(p) {
					t.Fatalf("Put(%+v): %x, not %x", p, w, put(p))
				}
				p.Rsw, p.Ppn = int(lowest(rsw, 2)), ppn%(mostPpn+1)
				if g, ok := pte.Get(w); g != p || !ok {
					t.Fatalf("Get(%x): %+v, %v, not %+v", w, g, ok, p)
				}
			}
		}
	}
	for _, w := range words() {
		g, ok := pte.Get(w)
		if p, is := get(w); g != p || ok != is {
			t.Fatalf("Get(%x): %+v, %v, not %+v, %v", w, g, ok, p, is)
		}
		if b := pte.Put(g); b != w%(1<<54) {
			t.Fatalf("Put of Get(%x): %x", w, b)
		}
	}
}

// P8.1: satp's parts in their places, each alone and together, On and not On.
func TestPutSatp(t *testing.T) {
	for _, x := range []struct {
		s api.Satp
		w uint64
	}{
		{api.Satp{}, 0},
		{api.Satp{On: true}, 0x8000000000000000},
		{api.Satp{Asid: 1}, 0x0000100000000000},
		{api.Satp{Ppn: 1}, 0x0000000000000001},
		{api.Satp{On: true, Asid: 1, Ppn: 2}, 0x8000100000000002},
		{api.Satp{Asid: 1, Ppn: 2}, 0x0000100000000002},
		{api.Satp{On: true, Asid: 65535, Ppn: mostPpn}, 0x8fffffffffffffff},
		{api.Satp{Asid: 65535, Ppn: mostPpn}, 0x0fffffffffffffff},
		{api.Satp{Asid: 65535}, 0x0ffff00000000000},
		{api.Satp{Ppn: mostPpn}, 0x00000fffffffffff},
	} {
		if w := pte.PutSatp(x.s); w != x.w {
			t.Errorf("PutSatp(%+v): %x, not %x", x.s, w, x.w)
		}
	}
}

// P8.1: of Asid the lowest 16 bits count, of Ppn the lowest 44, and change nothing else.
func TestPutSatpCut(t *testing.T) {
	for _, x := range []struct {
		asid int
		bits uint64
	}{
		{0, 0}, {1, 1}, {255, 255}, {256, 256}, {32768, 32768}, {65534, 65534}, {65535, 65535},
		{65536, 0}, {65537, 1}, {131071, 65535}, {131072, 0}, {1 << 20, 0}, {1<<32 + 5, 5},
		{-1, 65535}, {-2, 65534}, {-65535, 1}, {-65536, 0}, {-65537, 65535}, {-1<<32 + 5, 5},
		{math.MaxInt, 65535}, {math.MaxInt - 1, 65534}, {math.MaxInt - 65535, 0},
		{math.MinInt, 0}, {math.MinInt + 1, 1}, {math.MinInt + 65535, 65535},
	} {
		for _, ppn := range []struct{ ppn, kept uint64 }{
			{0, 0}, {1, 1}, {mostPpn, mostPpn}, {mostPpn + 1, 0}, {mostPpn + 2, 1}, {1 << 60, 0}, {1 << 63, 0}, {all, mostPpn},
		} {
			want := x.bits*(1<<44) + ppn.kept
			if w := pte.PutSatp(api.Satp{Asid: x.asid, Ppn: ppn.ppn}); w != want {
				t.Errorf("PutSatp of %d, %x: %x, not %x", x.asid, ppn.ppn, w, want)
			}
			want += 1 << 63
			if w := pte.PutSatp(api.Satp{On: true, Asid: x.asid, Ppn: ppn.ppn}); w != want {
				t.Errorf("PutSatp of %d, %x, On: %x, not %x", x.asid, ppn.ppn, w, want)
			}
		}
	}
}

// P8.1: of the sixteen modes two are one; beside false there is nothing.
func TestGetSatp(t *testing.T) {
	for mode := range uint64(16) {
		for _, asid := range []int{0, 1, 2, 255, 256, 32768, 65534, 65535} {
			for _, ppn := range []uint64{0, 1, 2, 1 << 43, mostPpn - 1, mostPpn} {
				w := mode<<60 + uint64(asid)<<44 + ppn
				var want api.Satp
				if mode == 0 || mode == 8 {
					want = api.Satp{On: mode == 8, Asid: asid, Ppn: ppn}
				}
				if s, ok := pte.GetSatp(w); s != want || ok != (mode == 0 || mode == 8) {
					t.Errorf("GetSatp(%x): %+v, %v, not %+v", w, s, ok, want)
				}
			}
		}
	}
}

// P8.1: each bit of satp alone.
func TestGetSatpBits(t *testing.T) {
	for i := range 64 {
		var want api.Satp
		switch {
		case i < 44:
			want.Ppn = 1 << i
		case i < 60:
			want.Asid = 1 << (i - 44)
		case i == 63:
			want.On = true
		}
		if s, ok := pte.GetSatp(1 << i); s != want || ok != (i < 60 || i == 63) {
			t.Errorf("GetSatp of bit %d: %+v, %v", i, s, ok)
		}
	}
	if s, ok := pte.GetSatp(all); s != (api.Satp{}) || ok {
		t.Errorf("GetSatp of all: %+v, %v", s, ok)
	}
}

// P8.1: GetSatp of what PutSatp answers is what was put, its numbers cut; PutSatp
// of what GetSatp answers beside true is the word.
func TestPutGetSatp(t *testing.T) {
	for _, ppn := range words() {
		for _, asid := range []int{0, 1, 65535, 65536, -1, math.MaxInt, math.MinInt, int(ppn)} {
			for _, on := range []bool{false, true} {
				s := api.Satp{On: on, Asid: asid, Ppn: ppn}
				w := pte.PutSatp(s)
				if w != putSatp(s) {
					t.Fatalf("PutSatp(%+v): %x, not %x", s, w, putSatp(s))
				}
				s.Asid, s.Ppn = int(lowest(asid, 16)), ppn%(mostPpn+1)
				if g, ok := pte.GetSatp(w); g != s || !ok {
					t.Fatalf("GetSatp(%x): %+v, %v, not %+v", w, g, ok, s)
				}
			}
		}
	}
	for _, w := range words() {
		for _, w := range []uint64{w, w << 4 >> 4, w<<4>>4 | 1<<63} {
			s, ok := pte.GetSatp(w)
			if is := w>>60 == 0 || w>>60 == 8; ok != is {
				t.Fatalf("GetSatp(%x): %v", w, ok)
			}
			if ok && pte.PutSatp(s) != w {
				t.Fatalf("PutSatp of GetSatp(%x): %x", w, pte.PutSatp(s))
			}
		}
	}
}

// P8.2: addresses at both ends of the two halves, and the words beside them.
func TestCanonical(t *testing.T) {
	const upper = 0xffffffc000000000 // the first word whose bits 38 to 63 are set
	for _, x := range []struct {
		va uint64
		is bool
	}{
		{0, true}, {1, true}, {api.CodeBase, true}, {api.SharedBase, true}, {1 << 37, true},
		{1<<38 - 2, true}, {1<<38 - 1, true}, {1 << 38, false}, {1<<38 + 1, false}, {1<<39 - 1, false},
		{1 << 39, false}, {1<<39 + 1, false}, {1 << 40, false}, {1 << 62, false}, {1<<63 - 1, false}, {1 << 63, false}, {1<<63 + 1, false},
		{upper - 1<<38, false}, {upper - 2, false}, {upper - 1, false}, {upper, true}, {upper + 1, true}, {upper + 1<<37, true},
		{all - 4095, true}, {all - 1, true}, {all, true},
	} {
		if is := pte.Canonical(x.va); is != x.is {
			t.Errorf("Canonical(%x): %v", x.va, is)
		}
	}
}

// P8.2: of the bits 39 to 63 none may be unlike bit 38; those below it may be as they like.
func TestCanonicalBits(t *testing.T) {
	for _, low := range []uint64{0, 1, 0xfff, 1 << 37, 1<<38 - 1, 0x2aaaaaaaaa} {
		for _, high := range []uint64{0, 0xffffffc000000000} {
			if !pte.Canonical(low + high) {
				t.Errorf("Canonical(%x): false", low+high)
			}
			for i := 38; i < 64; i++ {
				if va := (low + high) ^ 1<<i; pte.Canonical(va) {
					t.Errorf("Canonical(%x): true", va)
				}
			}
			for i := range 38 {
				if va := (low + high) ^ 1<<i; !pte.Canonical(va) {
					t.Errorf("Canonical(%x): false", va)
				}
			}
		}
	}
	for _, va := range words() {
		r := of(va)
		is := true
		for i := 39; i < 64; i++ {
			is = is && r[i] == r[38]
		}
		if pte.Canonical(va) != is {
			t.Errorf("Canonical(%x): %v", va, !is)
		}
	}
}

// P8.2: the three numbers of ordinary addresses, and of the ends.
func TestIndex(t *testing.T) {
	for _, x := range []struct {
		va uint64
		of [3]int
	}{
		{0, [3]int{0, 0, 0}},
		{0xfff, [3]int{0, 0, 0}},
		{0x1000, [3]int{1, 0, 0}},
		{0x1fffff, [3]int{511, 0, 0}},
		{0x200000, [3]int{0, 1, 0}},
		{0x3fffffff, [3]int{511, 511, 0}},
		{api.CodeBase, [3]int{16, 0, 0}},
		{api.SharedBase, [3]int{0, 0, 1}},
		{api.SharedBase + 0x2008, [3]int{2, 0, 1}},
		{0x4081345678, [3]int{0x145, 9, 258}},
		{1<<38 - 1, [3]int{511, 511, 255}},
		{0xffffffc000000000, [3]int{0, 0, 256}},
		{1 << 39, [3]int{0, 0, 0}},
		{0xffffff8000000000, [3]int{0, 0, 0}},
		{all, [3]int{511, 511, 511}},
	} {
		for level, want := range x.of {
			if n := pte.Index(x.va, level); n != want {
				t.Errorf("Index(%x, %d): %d, not %d", x.va, level, n, want)
			}
		}
	}
}

// P8.2: each bit of an address is in one level's number, or in none.
func TestIndexBits(t *testing.T) {
	for i := range 64 {
		for level := range 3 {
			want := 0
			if first := 12 + 9*level; i >= first && i < first+9 {
				want = 1 << (i - first)
			}
			if n := pte.Index(1<<i, level); n != want {
				t.Errorf("Index of bit %d at %d: %d, not %d", i, level, n, want)
			}
		}
	}
	for _, va := range words() {
		rest := va / 4096
		for level := range 3 {
			if n := pte.Index(va, level); n != int(rest%512) {
				t.Errorf("Index(%x, %d): %d, not %d", va, level, n, rest%512)
			}
			rest /= 512
		}
	}
}

// P8.2: levels that aren't have no number, no span and no place.
func TestNoLevels(t *testing.T) {
	for _, level := range noLevels {
		if s := pte.Span(level); s != 0 {
			t.Errorf("Span(%d): %x", level, s)
		}
		for _, va := range words() {
			if n := pte.Index(va, level); n != 0 {
				t.Fatalf("Index(%x, %d): %d", va, level, n)
			}
			for _, ppn := range []uint64{0, 1, 0x200, 0x801, mostPpn, all, va} {
				if at := pte.Join(ppn, va, level); at != 0 {
					t.Fatalf("Join(%x, %x, %d): %x", ppn, va, level, at)
				}
			}
		}
	}
}

// P8.2: bits 12 to 38, and none of those beside them; an address that isn't canonical has it too.
func TestVpn(t *testing.T) {
	for _, x := range []struct{ va, vpn uint64 }{
		{0, 0}, {1, 0}, {0xfff, 0}, {0x1000, 1}, {0x1fff, 1}, {0x2000, 2}, {0x20000, 0x20},
		{api.SharedBase, 0x40000}, {api.SharedBase + 0x2008, 0x40002},
		{1<<38 - 1, 1<<26 - 1}, {1 << 38, 1 << 26}, {1<<39 - 1, 1<<27 - 1}, {1 << 39, 0}, {1<<39 + 0x1234, 1}, {1 << 63, 0},
		{0xffffff8000000fff, 0}, {0xffffffc000000000, 1 << 26}, {0xfffffffffffff000, 1<<27 - 1}, {all, 1<<27 - 1},
	} {
		if n := pte.Vpn(x.va); n != x.vpn {
			t.Errorf("Vpn(%x): %x, not %x", x.va, n, x.vpn)
		}
	}
	for i := range 64 {
		var want uint64
		if i >= 12 && i <= 38 {
			want = 1 << (i - 12)
		}
		if n := pte.Vpn(1 << i); n != want {
			t.Errorf("Vpn of bit %d: %x, not %x", i, n, want)
		}
	}
	for _, va := range words() {
		if n := pte.Vpn(va); n != va/4096%(1<<27) {
			t.Errorf("Vpn(%x): %x", va, n)
		}
		if n := pte.Vpn(va); n != uint64(pte.Index(va, 2)*512*512+pte.Index(va, 1)*512+pte.Index(va, 0)) {
			t.Errorf("Vpn(%x): %x, unlike its three numbers", va, n)
		}
	}
}

// P8.2: how many bytes the pages of the three levels have.
func TestSpan(t *testing.T) {
	for level, want := range []uint64{4096, 2097152, 1073741824} {
		if s := pte.Span(level); s != want {
			t.Errorf("Span(%d): %d, not %d", level, s, want)
		}
	}
}

// P8.2: the place of ordinary addresses, with numbers that lie at a multiple of the
// level's page, and with such as don't: there the address's bits stand in their stead.
func TestJoin(t *testing.T) {
	for _, x := range []struct {
		ppn, va uint64
		level   int
		at      uint64
	}{
		{0, 0, 0, 0}, {0, 0, 1, 0}, {0, 0, 2, 0},
		{2, 0x40002008, 0, 0x2008},
		{0x801, 0x3fc05678, 0, 0x801678},
		{0x800, 0x3fc05678, 1, 0x805678},
		{0x801, 0x3fc05678, 1, 0x805678},
		{0x9ff, 0x3fc05678, 1, 0x805678},
		{0xa00, 0x3fc05678, 1, 0xa05678},
		{0x40000, 0x3fc05678, 2, 0x7fc05678},
		{0x7ffff, 0x3fc05678, 2, 0x7fc05678},
		{0x80000, 0x3fc05678, 2, 0xbfc05678},
		{1, all, 0, 0x1fff}, {1, all, 1, 0x1fffff}, {1, all, 2, 0x3fffffff},
		{0, all, 0, 0xfff}, {0, all, 1, 0x1fffff}, {0, all, 2, 0x3fffffff},
		{mostPpn, 0, 0, 0xfffffffffff000}, {mostPpn, 0, 1, 0xffffffffe00000}, {mostPpn, 0, 2, 0xffffffc0000000},
		{mostPpn, all, 0, 0xffffffffffffff}, {mostPpn, all, 1, 0xffffffffffffff}, {mostPpn, all, 2, 0xffffffffffffff},
		{1<<52 - 1, 0, 0, 0xfffffffffffff000}, {1 << 52, 0x123, 0, 0x123}, {1<<52 + 1, 0x123, 0, 0x1123}, {1 << 63, 0x40123456, 1, 0x123456},
		{all, 0, 0, 0xfffffffffffff000}, {all, 0, 1, 0xffffffffffe00000}, {all, 0, 2, 0xffffffffc0000000},
		{all, all, 0, all}, {all, all, 1, all}, {all, all, 2, all},
	} {
		if at := pte.Join(x.ppn, x.va, x.level); at != x.at {
			t.Errorf("Join(%x, %x, %d): %x, not %x", x.ppn, x.va, x.level, at, x.at)
		}
	}
}

// P8.2: each bit of the number and of the address, by the side of others.
func TestJoinBits(t *testing.T) {
	l := words()
	for level := range 3 {
		for _, ppn := range l {
			for _, va := range l {
				if at := pte.Join(ppn, va, level); at != join(ppn, va, level) {
					t.Fatalf("Join(%x, %x, %d): %x, not %x", ppn, va, level, at, join(ppn, va, level))
				}
			}
		}
	}
}

// P8.3: every setting of V, R, W and X; nothing else counts.
func TestLeafRight(t *testing.T) {
	const no, yes = false, true
	for _, x := range []struct{ v, r, w, x, leaf, right bool }{
		{no, no, no, no, no, no},
		{no, no, no, yes, yes, no},
		{no, no, yes, no, no, no},
		{no, no, yes, yes, yes, no},
		{no, yes, no, no, yes, no},
		{no, yes, no, yes, yes, no},
		{no, yes, yes, no, yes, no},
		{no, yes, yes, yes, yes, no},
		{yes, no, no, no, no, yes},
		{yes, no, no, yes, yes, yes},
		{yes, no, yes, no, no, no},
		{yes, no, yes, yes, yes, no},
		{yes, yes, no, no, yes, yes},
		{yes, yes, no, yes, yes, yes},
		{yes, yes, yes, no, yes, yes},
		{yes, yes, yes, yes, yes, yes},
	} {
		for others := range 16 {
			for _, rsw := range []int{0, 1, 2, 3, 4, -1, math.MaxInt, math.MinInt} {
				for _, ppn := range []uint64{0, 1, mostPpn, mostPpn + 1, all} {
					p := flagged(others << 4)
					p.V, p.R, p.W, p.X, p.Rsw, p.Ppn = x.v, x.r, x.w, x.x, rsw, ppn
					if pte.Leaf(p) != x.leaf {
						t.Errorf("Leaf(%+v): %v", p, !x.leaf)
					}
					if pte.Right(p) != x.right {
						t.Errorf("Right(%+v): %v", p, !x.right)
					}
				}
			}
		}
	}
}
