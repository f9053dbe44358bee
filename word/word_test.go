package word_test

import (
	"bytes"
	"encoding/binary"
	"math"
	"testing"

	"runrig/word"
)

var sizes = []int{1, 2, 4, 8}

// noSizes are none: neighbours of sizes, powers of two beyond them, bits
// instead of bytes, those below 0, and those that are a size in 8 or 32 bits.
var noSizes = []int{
	0, 3, 5, 6, 7, 9, 10, 12, 16, 24, 32, 64, 128, 256,
	-1, -2, -3, -4, -7, -8, -16,
	257, 258, 260, 264, 1<<32 + 1, 1<<32 + 2, 1<<32 + 4, 1<<32 + 8,
	math.MaxInt, math.MaxInt - 7, math.MinInt, math.MinInt + 1, math.MinInt + 8,
}

// words have each bit alone, all bits but one, all bits up to one, and some of all kinds.
func words() []uint64 {
	l := []uint64{0x1234, 0x0123456789abcdef, 0xfedcba9876543210, 0x8182838485868788, 0x7f7e7d7c7b7a7978, 0xff00ff00ff00ff00, 0x00ff00ff00ff00ff}
	for i := range 64 {
		bit := uint64(1) << i
		l = append(l, bit, ^bit, bit-1, -bit, bit|1<<63)
	}
	return append(l, 0, math.MaxUint64)
}

// read is a word of a right size as another package reads it.
func read(b []byte, size int) uint64 {
	switch size {
	case 1:
		return uint64(b[0])
	case 2:
		return uint64(binary.LittleEndian.Uint16(b))
	case 4:
		return uint64(binary.LittleEndian.Uint32(b))
	}
	return binary.LittleEndian.Uint64(b)
}

// cut is what Cut of a right size answers.
func cut(v uint64, size int) uint64 {
	switch size {
	case 1:
		return uint64(uint8(v))
	case 2:
		return uint64(uint16(v))
	case 4:
		return uint64(uint32(v))
	}
	return v
}

// sign is what Sign of a right size answers.
func sign(v uint64, size int) uint64 {
	switch size {
	case 1:
		return uint64(int64(int8(v)))
	case 2:
		return uint64(int64(int16(v)))
	case 4:
		return uint64(int64(int32(v)))
	}
	return v
}

// row has n bytes that are all unlike, none of them 0, and spare room behind them.
func row(n int) []byte {
	b := make([]byte, n+16)
	for i := range b {
		b[i] = byte(0x91 + 7*i)
	}
	return b[:n]
}

// places are all those in and about n bytes, and those near the ends of int.
func places(n int) []int {
	var l []int
	for at := -17; at <= n+17; at++ {
		l = append(l, at)
	}
	for i := range 18 {
		l = append(l, math.MaxInt-i, math.MinInt+i)
	}
	return append(l, math.MaxInt32, math.MaxInt32+1, math.MinInt32, 1<<32, 1<<32+1, -1<<32)
}

// there tells whether size bytes stand from at on among n, by counting.
func there(n, at, size int) bool {
	for i := range n {
		if i == at {
			return n-i >= size
		}
	}
	return false
}

// P1.1: Size.
func TestSize(t *testing.T) {
	for _, n := range sizes {
		if !word.Size(n) {
			t.Errorf("Size(%d) is false", n)
		}
	}
	for _, n := range noSizes {
		if word.Size(n) {
			t.Errorf("Size(%d) is true", n)
		}
	}
	for n := -300; n <= 300; n++ {
		if want := n == 1 || n == 2 || n == 4 || n == 8; word.Size(n) != want {
			t.Errorf("Size(%d) isn't %v", n, want)
		}
	}
}

// P1.1: the example, and the least byte first in each size.
func TestGetLeastFirst(t *testing.T) {
	if v, ok := word.Get([]byte{0x34, 0x12, 0xff}, 0, 2); v != 0x1234 || !ok {
		t.Errorf("the example: %x %v", v, ok)
	}
	b := []byte{0x00, 0x81, 0x02, 0x03, 0x84, 0x05, 0x06, 0x07, 0x88, 0xff}
	for _, x := range []struct {
		at, size int
		v        uint64
	}{
		{0, 1, 0}, {1, 1, 0x81}, {9, 1, 0xff},
		{0, 2, 0x8100}, {1, 2, 0x0281}, {8, 2, 0xff88},
		{1, 4, 0x84030281}, {6, 4, 0xff880706},
		{0, 8, 0x0706058403028100}, {1, 8, 0x8807060584030281}, {2, 8, 0xff88070605840302},
	} {
		if v, ok := word.Get(b, x.at, x.size); v != x.v || !ok {
			t.Errorf("Get(%d, %d): %x %v, not %x", x.at, x.size, v, ok, x.v)
		}
	}
}

// P1.1: Get at all places of short rows, with room behind them that isn't theirs.
func TestGetPlaces(t *testing.T) {
	for n := 0; n <= 18; n++ {
		b := row(n)
		was := bytes.Clone(b[:cap(b)])
		for _, at := range places(n) {
			for _, size := range sizes {
				want, ok := uint64(0), there(n, at, size)
				if ok {
					want = read(b[at:], size)
				}
				if v, got := word.Get(b, at, size); v != want || got != ok {
					t.Errorf("%d bytes, Get(%d, %d): %x %v, not %x %v", n, at, size, v, got, want, ok)
				}
			}
		}
		if !bytes.Equal(b[:cap(b)], was) {
			t.Errorf("Get changed %d bytes", n)
		}
	}
}

// P1.1: Get and Put of sizes that are none, at right and wrong places.
func TestNoSize(t *testing.T) {
	for _, n := range []int{0, 1, 8, 18, 300} {
		b := row(n)
		was := bytes.Clone(b[:cap(b)])
		for _, size := range noSizes {
			for _, at := range places(n) {
				if v, ok := word.Get(b, at, size); v != 0 || ok {
					t.Fatalf("%d bytes, Get(%d, %d): %x %v", n, at, size, v, ok)
				}
				if word.Put(b, at, size, math.MaxUint64) {
					t.Fatalf("%d bytes, Put(%d, %d) is true", n, at, size)
				}
			}
		}
		if !bytes.Equal(b[:cap(b)], was) {
			t.Errorf("a false Put laid something in %d bytes", n)
		}
	}
}

// P1.1: nil has no bytes.
func TestNil(t *testing.T) {
	for _, at := range places(0) {
		for _, size := range append(noSizes, sizes...) {
			if v, ok := word.Get(nil, at, size); v != 0 || ok {
				t.Errorf("Get(nil, %d, %d): %x %v", at, size, v, ok)
			}
			if word.Put(nil, at, size, 1) {
				t.Errorf("Put(nil, %d, %d) is true", at, size)
			}
		}
	}
}

// P1.1: Put lays these bytes and no others; where Get says false it lays nothing.
func TestPutPlaces(t *testing.T) {
	const v = 0x8091a2b3c4d5e6f7
	laid := []byte{0xf7, 0xe6, 0xd5, 0xc4, 0xb3, 0xa2, 0x91, 0x80}
	for n := 0; n <= 18; n++ {
		for _, at := range places(n) {
			for _, size := range sizes {
				b, want, ok := row(n), row(n), there(n, at, size)
				if ok {
					copy(want[at:at+size], laid)
				}
				if got := word.Put(b, at, size, v); got != ok {
					t.Errorf("%d bytes, Put(%d, %d): %v", n, at, size, got)
				}
				if !bytes.Equal(b[:cap(b)], want[:cap(want)]) {
					t.Errorf("%d bytes, Put(%d, %d) laid %x", n, at, size, b[:cap(b)])
				}
			}
		}
	}
}

// P1.1: Put and Get of all kinds of words: the lowest bytes come back.
func TestPutGet(t *testing.T) {
	for _, v := range words() {
		for _, size := range sizes {
			b := bytes.Repeat([]byte{0x5a}, 12)
			if !word.Put(b, 2, size, v) {
				t.Fatalf("Put(2, %d, %x) is false", size, v)
			}
			if g := read(b[2:], size); g != cut(v, size) {
				t.Errorf("Put(2, %d, %x) laid %x", size, v, g)
			}
			if g, ok := word.Get(b, 2, size); g != cut(v, size) || !ok {
				t.Errorf("Get behind Put(2, %d, %x): %x %v", size, v, g, ok)
			}
			if b[1] != 0x5a || b[2+size] != 0x5a {
				t.Errorf("Put(2, %d, %x) laid more: %x", size, v, b)
			}
		}
	}
}

// P1.2: Cut and Sign of right sizes, the highest bit of each 0 and 1, and whatever stands above it.
func TestCutSign(t *testing.T) {
	for _, x := range []struct {
		v         uint64
		size      int
		cut, sign uint64
	}{
		{0x80, 1, 0x80, 0xffffffffffffff80}, // the example
		{0x7f, 1, 0x7f, 0x7f},
		{0xffffffffffffff7f, 1, 0x7f, 0x7f},
		{0x100, 1, 0, 0},
		{0x8000, 2, 0x8000, 0xffffffffffff8000},
		{0x7fff, 2, 0x7fff, 0x7fff},
		{0x8080, 2, 0x8080, 0xffffffffffff8080},
		{0x0080, 2, 0x0080, 0x0080},
		{0xffffffffffff7fff, 2, 0x7fff, 0x7fff},
		{0x10000, 2, 0, 0},
		{0x80000000, 4, 0x80000000, 0xffffffff80000000},
		{0x7fffffff, 4, 0x7fffffff, 0x7fffffff},
		{0x00008000, 4, 0x00008000, 0x00008000},
		{0xffffffff7fffffff, 4, 0x7fffffff, 0x7fffffff},
		{0x100000000, 4, 0, 0},
		{0x8000000000000000, 8, 0x8000000000000000, 0x8000000000000000},
		{0x7fffffffffffffff, 8, 0x7fffffffffffffff, 0x7fffffffffffffff},
		{0x80000000, 8, 0x80000000, 0x80000000},
	} {
		if g := word.Cut(x.v, x.size); g != x.cut {
			t.Errorf("Cut(%x, %d): %x, not %x", x.v, x.size, g, x.cut)
		}
		if g := word.Sign(x.v, x.size); g != x.sign {
			t.Errorf("Sign(%x, %d): %x, not %x", x.v, x.size, g, x.sign)
		}
	}
	for _, v := range words() {
		for _, size := range sizes {
			if g := word.Cut(v, size); g != cut(v, size) {
				t.Errorf("Cut(%x, %d): %x", v, size, g)
			}
			if g := word.Sign(v, size); g != sign(v, size) {
				t.Errorf("Sign(%x, %d): %x", v, size, g)
			}
		}
	}
}

// P1.2: of no size Cut and Sign answer the word, Aligned false, Bytes none.
func TestOthersOfNoSize(t *testing.T) {
	for _, v := range words() {
		for _, size := range noSizes {
			if g := word.Cut(v, size); g != v {
				t.Errorf("Cut(%x, %d): %x", v, size, g)
			}
			if g := word.Sign(v, size); g != v {
				t.Errorf("Sign(%x, %d): %x", v, size, g)
			}
			if word.Aligned(v, size) {
				t.Errorf("Aligned(%x, %d) is true", v, size)
			}
			if g := word.Bytes(v, size); len(g) != 0 {
				t.Errorf("Bytes(%x, %d): %x", v, size, g)
			}
		}
	}
}

// P1.2: Aligned.
func TestAligned(t *testing.T) {
	for _, size := range sizes {
		for base := uint64(0); base <= 64; base += uint64(size) {
			for i := range size {
				if want := i == 0; word.Aligned(base+uint64(i), size) != want {
					t.Errorf("Aligned(%d, %d) isn't %v", base+uint64(i), size, want)
				}
			}
		}
	}
	for _, x := range []struct {
		at   uint64
		most int // the greatest size of which it is a multiple
	}{
		{math.MaxUint64, 1}, {math.MaxUint64 - 1, 2}, {math.MaxUint64 - 3, 4}, {math.MaxUint64 - 7, 8}, {math.MaxUint64 - 15, 8},
		{1 << 63, 8}, {1<<63 + 4, 4}, {1<<63 - 1, 1}, {1<<63 - 2, 2}, {1 << 32, 8}, {1<<32 + 2, 2}, {1<<32 + 1, 1}, {0, 8},
	} {
		for _, size := range sizes {
			if want := size <= x.most; word.Aligned(x.at, size) != want {
				t.Errorf("Aligned(%x, %d) isn't %v", x.at, size, want)
			}
		}
	}
}

// P1.2: Bytes, the least first, just as many as the size.
func TestBytes(t *testing.T) {
	for _, x := range []struct {
		v    uint64
		size int
		b    []byte
	}{
		{0x1234, 1, []byte{0x34}},
		{0x1234, 2, []byte{0x34, 0x12}},
		{0x123456, 2, []byte{0x56, 0x34}},
		{0x1234, 4, []byte{0x34, 0x12, 0, 0}},
		{0x8182838485868788, 4, []byte{0x88, 0x87, 0x86, 0x85}},
		{0x8182838485868788, 8, []byte{0x88, 0x87, 0x86, 0x85, 0x84, 0x83, 0x82, 0x81}},
		{0, 8, make([]byte, 8)},
	} {
		if g := word.Bytes(x.v, x.size); !bytes.Equal(g, x.b) {
			t.Errorf("Bytes(%x, %d): %x, not %x", x.v, x.size, g, x.b)
		}
	}
	for _, v := range words() {
		for _, size := range sizes {
			if g := word.Bytes(v, size); len(g) != size || read(g, size) != cut(v, size) {
				t.Errorf("Bytes(%x, %d): %x", v, size, g)
			}
		}
	}
}

// P1.2: an answer of Bytes is new memory, its spare room too.
func TestBytesNew(t *testing.T) {
	for _, size := range sizes {
		a, b := word.Bytes(0x0102030405060708, size), word.Bytes(0x1112131415161718, size)
		for i := range a[:cap(a)] {
			a[:cap(a)][i] = 0xee
		}
		if !bytes.Equal(b, []byte{0x18, 0x17, 0x16, 0x15, 0x14, 0x13, 0x12, 0x11}[:size]) {
			t.Errorf("two answers of %d bytes share memory: %x", size, b)
		}
		if g := word.Bytes(0x0102030405060708, size); !bytes.Equal(g, []byte{8, 7, 6, 5, 4, 3, 2, 1}[:size]) {
			t.Errorf("an answer of %d bytes was kept: %x", size, g)
		}
	}
}
