package check_test

import (
	"bytes"
	"fmt"
	"hash/crc32"
	"math"
	"testing"

	"runrig/check"
)

// sum is the form's rule, step by step: eight moves a byte.
func sum(b []byte) uint32 {
	s := uint32(math.MaxUint32)
	for _, c := range b {
		s ^= uint32(c)
		for range 8 {
			low := s & 1
			s >>= 1
			if low == 1 {
				s ^= 0xedb88320
			}
		}
	}
	return s ^ math.MaxUint32
}

// sealed is b and its sum behind it, byte by byte.
func sealed(b []byte) []byte {
	s := sum(b)
	return append(bytes.Clone(b), byte(s), byte(s>>8), byte(s>>16), byte(s>>24))
}

// row has n bytes of all kinds, and spare room behind them that isn't theirs.
func row(n int) []byte {
	b := make([]byte, n+16)
	for i := range b {
		b[i] = byte(0x5b + 29*i + i*i/3)
	}
	return b[:n]
}

// rows are of no bytes and nil, of a few, of fewer than four and just four, and
// as long as the data of the longest letter, and more.
func rows() [][]byte {
	l := [][]byte{
		nil, {}, {0}, {0xff}, {0, 0}, {0xff, 0xff, 0xff}, {0, 0, 0, 0}, {0xff, 0xff, 0xff, 0xff}, {0, 0, 0, 0, 0},
		[]byte("abc"), []byte("123456789"), make([]byte, 100), bytes.Repeat([]byte{0xff}, 100),
	}
	for n := range 70 {
		l = append(l, row(n))
	}
	return append(l, row(255), row(256), row(257), row(4096), row(4120), row(4160))
}

// whole is a row and its spare room.
func whole(b []byte) []byte {
	return b[:cap(b)]
}

// spoil lays other bytes over an answer and over its spare room.
func spoil(b []byte) {
	for i := range whole(b) {
		whole(b)[i] ^= 0xa5
	}
}

// P3.1: sums that others have reckoned, the example among them.
func TestSumKnown(t *testing.T) {
	for s, want := range map[string]uint32{
		"":                           0,
		"\x00":                       0xd202ef8d,
		"\xff":                       0xff000000,
		"\x00\x00\x00\x00":           0x2144df1c,
		"\xff\xff\xff\xff":           0xffffffff,
		"a":                          0xe8b7be43,
		"abc":                        0x352441c2,
		"123456789":                  0xcbf43926,
		"message digest":             0x20159d7f,
		"abcdefghijklmnopqrstuvwxyz": 0x4c2750bd,
		"The quick brown fox jumps over the lazy dog": 0x414fa339,
	} {
		if g := check.Sum([]byte(s)); g != want {
			t.Errorf("Sum(%q): %08x, not %08x", s, g, want)
		}
	}
	if g := check.Sum(nil); g != 0 {
		t.Errorf("Sum(nil): %x", g)
	}
}

// P3.1: all rows of one and two bytes, so that each byte comes first and second.
func TestSumShort(t *testing.T) {
	for a := range 256 {
		if g, want := check.Sum([]byte{byte(a)}), sum([]byte{byte(a)}); g != want {
			t.Errorf("Sum(%02x): %08x, not %08x", a, g, want)
		}
		for b := range 256 {
			r := []byte{byte(a), byte(b)}
			if g, want := check.Sum(r), sum(r); g != want {
				t.Errorf("Sum(%x): %08x, not %08x", r, g, want)
			}
		}
	}
}

// P3.1: rows of many lengths, by the form's rule and as another package sums them.
func TestSumLong(t *testing.T) {
	for _, b := range append(rows(), row(1<<16), row(1<<20)) {
		want := sum(b)
		if other := crc32.ChecksumIEEE(b); other != want {
			t.Fatalf("%d bytes: the rule sums them to %08x, not %08x", len(b), want, other)
		}
		if g := check.Sum(b); g != want {
			t.Errorf("%d bytes: %08x, not %08x", len(b), g, want)
		}
	}
}

// P3.1: the order of bytes counts, and noughts ahead and behind do.
func TestSumOrder(t *testing.T) {
	l := []string{"ab", "ba", "\x00ab", "ab\x00", "a\x00b", "\x00", "\x00\x00", "\x00\x00\x00", ""}
	for i, a := range l {
		for _, b := range l[:i] {
			if check.Sum([]byte(a)) == check.Sum([]byte(b)) {
				t.Errorf("%q and %q have one sum", a, b)
			}
		}
	}
}

// P3.1: the four bytes of the sum stand behind the bytes, the least one first.
func TestSeal(t *testing.T) {
	for s, want := range map[string]string{
		"":          "\x00\x00\x00\x00",
		"\xff":      "\xff\x00\x00\x00\xff",
		"a":         "a\x43\xbe\xb7\xe8",
		"abc":       "abc\xc2\x41\x24\x35",
		"123456789": "123456789\x26\x39\xf4\xcb",
	} {
		if g := check.Seal([]byte(s)); string(g) != want {
			t.Errorf("Seal(%q): %x, not %x", s, g, want)
		}
	}
	for _, b := range rows() {
		if g := check.Seal(b); !bytes.Equal(g, sealed(b)) {
			t.Errorf("Seal of %d bytes: %x", len(b), g)
		}
	}
}

// P3.1: what was sealed comes back, and so do sealed bytes that are sealed once more.
func TestOpen(t *testing.T) {
	for _, b := range rows() {
		if g, ok := check.Open(sealed(b)); !ok || !bytes.Equal(g, b) {
			t.Errorf("Open of %d bytes, sealed: %x %v", len(b), g, ok)
		}
		if g, ok := check.Open(check.Seal(check.Seal(b))); !ok || !bytes.Equal(g, sealed(b)) {
			t.Errorf("Open of %d bytes, sealed twice: %x %v", len(b), g, ok)
		}
	}
}

// shut fails the test if bytes are opened, or some stand beside false.
func shut(t *testing.T, b []byte, what string) {
	t.Helper()
	if g, ok := check.Open(b); ok || len(g) != 0 {
		t.Errorf("%s: Open(%x): %x %v", what, b, g, ok)
	}
}

// P3.1: fewer than four bytes are never opened, whatever stands behind them.
func TestOpenShort(t *testing.T) {
	shut(t, nil, "nil")
	shut(t, []byte{}, "none")
	for n := range 4 {
		shut(t, make([]byte, n), "noughts")
		shut(t, bytes.Repeat([]byte{0xff}, n), "ones")
		shut(t, check.Seal(nil)[:n], "room behind")
		shut(t, check.Seal([]byte("abc"))[:n], "room behind")
	}
	for a := range 256 {
		shut(t, []byte{byte(a)}, "one")
		for b := range 256 {
			shut(t, []byte{byte(a), byte(b)}, "two")
			shut(t, []byte{byte(a), byte(b), 0}, "three")
		}
	}
}

// P3.1: of rows of just four bytes only the four noughts are opened, to no bytes.
func TestOpenFour(t *testing.T) {
	if g, ok := check.Open([]byte{0, 0, 0, 0}); !ok || len(g) != 0 {
		t.Errorf("four noughts: %x %v", g, ok)
	}
	for i := range 4 {
		for v := 1; v < 256; v++ {
			b := make([]byte, 4)
			b[i] = byte(v)
			shut(t, b, "four")
		}
	}
	shut(t, []byte{0xff, 0xff, 0xff, 0xff}, "four")
}

// P3.1: sealed bytes that lack some at the end, or have more there, aren't opened.
func TestOpenCut(t *testing.T) {
	for _, b := range [][]byte{nil, {1}, []byte("abc"), []byte("123456789"), row(40), row(300)} {
		s := sealed(b)
		for n := range len(s) {
			shut(t, s[:n], "cut, with room behind")
			shut(t, bytes.Clone(s[:n]), "cut")
		}
		shut(t, append(bytes.Clone(s), 0), "a nought more")
		shut(t, append(bytes.Clone(s), 1), "a byte more")
		shut(t, append([]byte{7}, s...), "a byte ahead")
		if len(b) > 0 {
			shut(t, s[1:], "the first is gone")
		}
	}
}

// P3.1: four bytes that tell another sum, or the sum in another order, don't open.
func TestOpenOther(t *testing.T) {
	shut(t, []byte("abc\x35\x24\x41\xc2"), "the greatest first")
	shut(t, []byte("abc\x43\xbe\xb7\xe8"), "a's sum")
	shut(t, []byte("abc\x3d\xbe\xdb\xca"), "bits not turned at the end")
	shut(t, []byte("\xc2\x41\x24\x35abc"), "the sum ahead")
	shut(t, []byte("abd\xc2\x41\x24\x35"), "another byte")
	shut(t, []byte("acb\xc2\x41\x24\x35"), "another order")
	shut(t, []byte("abc\x00\x00\x00\x00"), "noughts")
	shut(t, []byte("abc\xff\xff\xff\xff"), "ones")
	shut(t, []byte("123456789"), "no sum")
}

// P3.1: calls change neither the bytes nor the room behind them.
func TestUnchanged(t *testing.T) {
	for _, b := range append(rows(), sealed([]byte("abc")), row(20)[:9:9], row(20)[:9]) {
		was := bytes.Clone(whole(b))
		check.Sum(b)
		check.Seal(b)
		check.Open(b)
		for _, bit := range []int{0, 1, 8*len(b) - 1, 8 * len(b), -1} {
			check.Turn(b, bit)
		}
		if !bytes.Equal(whole(b), was) {
			t.Errorf("%d bytes were changed", len(was))
		}
	}
}

// alone fails the test if an answer shares memory with what was handed in or
// with another answer, or if the package keeps it.
func alone(t *testing.T, what string, in []byte, call func([]byte) []byte) {
	t.Helper()
	was := bytes.Clone(whole(in))
	first, second := call(in), call(in)
	want := bytes.Clone(first)
	spoil(first)
	if !bytes.Equal(whole(in), was) {
		t.Errorf("%s: an answer shares memory with what was handed in", what)
	}
	if !bytes.Equal(second, want) {
		t.Errorf("%s: two answers share memory", what)
	}
	if g := call(in); !bytes.Equal(g, want) {
		t.Errorf("%s: an answer was kept: %x, not %x", what, g, want)
	}
	spoil(in)
	if !bytes.Equal(second, want) {
		t.Errorf("%s: what was handed in is kept in an answer", what)
	}
}

// P3.1 and P3.2: answers are new memory, of all lengths, with and without room behind.
func TestNew(t *testing.T) {
	open := func(b []byte) []byte {
		g, _ := check.Open(b)
		return g
	}
	for _, b := range rows() {
		what := fmt.Sprint(len(b), " bytes")
		alone(t, "Seal of "+what, bytes.Clone(b), check.Seal)
		alone(t, "Seal with room of "+what, row(len(b)), check.Seal)
		alone(t, "Open of "+what, sealed(b), open)
		alone(t, "Open with room of "+what, append(sealed(b), row(9)...)[:len(b)+4], open)
		for _, bit := range []int{0, 8*len(b) - 1, 8 * len(b), -1, math.MaxInt, math.MinInt} {
			turn := func(b []byte) []byte { return check.Turn(b, bit) }
			alone(t, "Turn of "+what, bytes.Clone(b), turn)
			alone(t, "Turn with room of "+what, row(len(b)), turn)
		}
	}
}

// P3.2: bit n is bit n mod 8, the least is 0, of byte n / 8.
func TestTurnKnown(t *testing.T) {
	for _, x := range []struct {
		b    string
		bit  int
		want string
	}{
		{"\x00", 0, "\x01"}, {"\x00", 1, "\x02"}, {"\x00", 6, "\x40"}, {"\x00", 7, "\x80"},
		{"\xff", 0, "\xfe"}, {"\xff", 7, "\x7f"}, {"\x01", 0, "\x00"}, {"\x80", 7, "\x00"},
		{"\x00\x00\x00", 7, "\x80\x00\x00"}, {"\x00\x00\x00", 8, "\x00\x01\x00"}, {"\x00\x00\x00", 15, "\x00\x80\x00"},
		{"\x00\x00\x00", 16, "\x00\x00\x01"}, {"\x00\x00\x00", 23, "\x00\x00\x80"}, {"abc", 9, "a`c"},
		{"\x00", 8, "\x00"}, {"\x00", -1, "\x00"}, {"abc", 24, "abc"}, {"abc", -8, "abc"}, {"", 0, ""}, {"", -1, ""},
	} {
		if g := check.Turn([]byte(x.b), x.bit); string(g) != x.want {
			t.Errorf("Turn(%x, %d): %x, not %x", x.b, x.bit, g, x.want)
		}
	}
}

// turned is b with the bit turned, by looking at one bit behind the other.
func turned(b []byte, bit int) []byte {
	c, n := bytes.Clone(b), 0
	for i := range c {
		for _, m := range []byte{1, 2, 4, 8, 16, 32, 64, 128} {
			if n == bit {
				c[i] ^= m
			}
			n++
		}
	}
	return c
}

// P3.2: each bit in and about rows of few bytes; turned twice, a row is as it was.
func TestTurn(t *testing.T) {
	for n := range 20 {
		b := row(n)
		for bit := -80; bit < 8*n+160; bit++ {
			g := check.Turn(b, bit)
			if want := turned(b, bit); !bytes.Equal(g, want) {
				t.Errorf("Turn(%x, %d): %x, not %x", b, bit, g, want)
			}
			if back := check.Turn(g, bit); !bytes.Equal(back, b) {
				t.Errorf("Turn(%x, %d) twice: %x", b, bit, back)
			}
		}
	}
}

// P3.2: the last bits of long rows, and those just beyond.
func TestTurnLong(t *testing.T) {
	for _, n := range []int{32, 255, 256, 4096, 8192, 1 << 13, 1 << 17} {
		b := make([]byte, n)
		for bit := 8*n - 17; bit < 8*n; bit++ {
			g := check.Turn(b, bit)
			want := make([]byte, n)
			want[bit/8] = byte(1 << (bit % 8))
			if !bytes.Equal(g, want) {
				t.Errorf("%d noughts: bit %d isn't turned, or not alone", n, bit)
			}
		}
		for bit := 8 * n; bit < 8*n+17; bit++ {
			if !bytes.Equal(check.Turn(b, bit), b) {
				t.Errorf("%d noughts: bit %d isn't there, and something is turned", n, bit)
			}
		}
	}
}

// P3.2: no row has bits below 0 or near the ends of int, nor those that are a
// row's bits in 8, 16 or 32 bits of the number.
func TestTurnNoBit(t *testing.T) {
	var bits []int
	for i := range 100 {
		bits = append(bits, -1-i, math.MaxInt-i, math.MinInt+i, 1<<32+i, 1<<32-1-i, -1<<32+i, 1<<31+i, 1<<31-1-i, -1<<31+i, 1<<16+i, 1<<60+i, 1<<61+i, 1<<62+i)
	}
	for n := range 33 {
		b := row(n)
		for _, bit := range append(bits, 8*n, 8*n+1, 8*n+7, 8*n+8, 8*n+256, 8*cap(b)-1, 8*cap(b)) {
			if g := check.Turn(b, bit); !bytes.Equal(g, b) {
				t.Errorf("Turn(%x, %d): %x", b, bit, g)
			}
		}
		if g := check.Turn(b[:n:n], 8*n); !bytes.Equal(g, b) {
			t.Errorf("Turn of %d bytes without room, bit %d: %x", n, 8*n, g)
		}
	}
	for _, bit := range append(bits, 0, 1, 7, 8) {
		if g := check.Turn(nil, bit); len(g) != 0 {
			t.Errorf("Turn(nil, %d): %x", bit, g)
		}
	}
}

// P3.2: whichever bit of sealed bytes is turned, of those or of the sum, they aren't opened.
func TestTurnedShut(t *testing.T) {
	for _, b := range append(rows()[:83], row(256)) {
		s := check.Seal(b)
		for bit := range 8 * len(s) {
			x := check.Turn(s, bit)
			shut(t, x, "a bit is turned")
			if g, ok := check.Open(check.Turn(x, bit)); !ok || !bytes.Equal(g, b) {
				t.Errorf("%d bytes, bit %d turned and turned back: %x %v", len(b), bit, g, ok)
			}
		}
	}
	s := check.Seal(row(4120))
	for bit := 0; bit < 8*len(s); bit += 97 {
		shut(t, check.Turn(s, bit), "a bit of many is turned")
	}
	shut(t, check.Turn(s, 8*len(s)-1), "the last bit is turned")
	if _, ok := check.Open(check.Turn(s, 8*len(s))); !ok {
		t.Error("a bit that isn't there was turned")
	}
}
