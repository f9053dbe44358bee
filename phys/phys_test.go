package phys_test

import (
	"bytes"
	"fmt"
	"math"
	"runtime"
	"testing"

	"runrig/api"
	"runrig/phys"
)

// sizes are those of words.
var sizes = []int{1, 2, 4, 8}

// noSizes are sizes that no word has, of any sign, and such as are one in 8, 16 or 32 bits.
var noSizes = []int{
	0, 3, 5, 6, 7, 9, 10, 12, 15, 16, 17, 32, 64, 4095, 4096, 4097,
	-1, -2, -3, -4, -5, -8, -16, -4096,
	256 + 1, 256 + 8, 1<<16 + 2, 1<<16 + 8, 1<<32 + 1, 1<<32 + 4, 1<<32 + 8, -1<<32 + 8,
	math.MaxInt32, math.MinInt32, math.MaxInt, math.MaxInt - 7, math.MinInt, math.MinInt + 1, math.MinInt + 8,
}

// noFrames are frames that no memory has: below nought, from the greatest memory
// on, near the ends of int, and such as are one in 20 or 32 bits.
var noFrames = []int{
	-1, -2, -3, -api.PageSize, -api.MostFrames, -api.MostFrames - 1,
	api.MostFrames, api.MostFrames + 1, 2 * api.MostFrames,
	math.MaxInt32, math.MaxInt32 + 1, math.MinInt32, math.MinInt32 - 1, 1 << 32, 1<<32 + 1, -1 << 32, -1<<32 + 1,
	1 << 52, 1<<52 + 1, 1 << 62, math.MaxInt, math.MaxInt - 1, math.MinInt, math.MinInt + 1,
}

// far are places that no memory has: behind the greatest one, near 2^64, and such
// as are one in 32 bits, or with signs.
var far = []uint64{
	api.MostFrames * api.PageSize, api.MostFrames*api.PageSize + 8, 1 << 33, 1<<33 + 8, 1<<44 + 4096, 1 << 52, 1 << 62,
	1<<63 - 8, 1 << 63, 1<<63 + 8, 1<<63 + 4096,
	math.MaxUint64 - 8191, math.MaxUint64 - 4095, math.MaxUint64 - 15, math.MaxUint64 - 7,
}

// words of all kinds: noughts, all ones, each byte another one, signs.
var words = []uint64{0, 1, 0x1122334455667788, math.MaxUint64, 1 << 63, 0x80, 0x8000, 0x80000000, 0xfedcba9876543210, 0xffffffff00000001}

// both is a memory, and what it should be: its bytes in a row.
type both struct {
	t    *testing.T
	m    *phys.Memory
	want []byte
}

func newMemory(t *testing.T, frames int) *phys.Memory {
	t.Helper()
	m, e := phys.New(frames)
	if m == nil || e != api.OK {
		t.Fatalf("New(%d): %v, %v", frames, m, e)
	}
	return m
}

func newBoth(t *testing.T, frames int) *both {
	t.Helper()
	return &both{t, newMemory(t, frames), make([]byte, frames*api.PageSize)}
}

// filled is both, with bytes of which no two beside one another are alike, none of them nought.
func filled(t *testing.T, frames int) *both {
	t.Helper()
	b := newBoth(t, frames)
	for f := range frames {
		p := row(api.PageSize, byte(f+1))
		if e := b.m.SetPage(f, p); e != api.OK {
			t.Fatalf("SetPage(%d): %v", f, e)
		}
		copy(b.want[f*api.PageSize:], p)
	}
	return b
}

// row of n bytes, with spare room behind them that isn't theirs.
func row(n int, first byte) []byte {
	b := make([]byte, n+64)
	for i := range b {
		b[i] = byte(1 + (i*7+i/251+int(first)*31)%255)
	}
	return b[:n]
}

// whole is a row and its spare room.
func whole(b []byte) []byte {
	return b[:cap(b)]
}

// spoil lays other bytes over a row and over its spare room.
func spoil(b []byte) {
	for i := range whole(b) {
		whole(b)[i] ^= 0xa5
	}
}

// refused tells which error a word has, none first.
func (b *both) refused(at uint64, size int) api.Errno {
	switch size {
	case 1, 2, 4, 8:
	default:
		return api.ErrArg
	}
	if at%uint64(size) != 0 {
		return api.ErrAlign
	}
	if at >= uint64(len(b.want)) || uint64(len(b.want))-at < uint64(size) {
		return api.ErrBound
	}
	return api.OK
}

// word that should be there.
func (b *both) word(at uint64, size int) (uint64, api.Errno) {
	if e := b.refused(at, size); e != api.OK {
		return 0, e
	}
	var v uint64
	for i := range size {
		v += uint64(b.want[int(at)+i]) << (8 * i)
	}
	return v, api.OK
}

// lay a word where it should be.
func (b *both) lay(at uint64, size int, v uint64) api.Errno {
	e := b.refused(at, size)
	if e == api.OK {
		for i := range size {
			b.want[int(at)+i] = byte(v >> (8 * i))
		}
	}
	return e
}

// load from both.
func (b *both) load(at uint64, size int) {
	b.t.Helper()
	v, e := b.m.Load(at, size)
	if want, is := b.word(at, size); v != want || e != is {
		b.t.Fatalf("Load(%x, %d): %x, %v, not %x, %v", at, size, v, e, want, is)
	}
}

// store to both.
func (b *both) store(at uint64, size int, v uint64) {
	b.t.Helper()
	if e, is := b.m.Store(at, size, v), b.lay(at, size, v); e != is {
		b.t.Fatalf("Store(%x, %d, %x): %v, not %v", at, size, v, e, is)
	}
}

// swap in both.
func (b *both) swap(at uint64, size int, v uint64) {
	b.t.Helper()
	want, is := b.word(at, size)
	b.lay(at, size, v)
	if old, e := b.m.Swap(at, size, v); old != want || e != is {
		b.t.Fatalf("Swap(%x, %d, %x): %x, %v, not %x, %v", at, size, v, old, e, want, is)
	}
}

// set a page of both.
func (b *both) set(frame int, p []byte) {
	b.t.Helper()
	is := api.OK
	switch {
	case frame < 0 || frame >= len(b.want)/api.PageSize:
		is = api.ErrBound
	case len(p) > api.PageSize:
		is = api.ErrArg
	default:
		page := b.want[frame*api.PageSize:][:api.PageSize]
		clear(page)
		copy(page, p)
	}
	if e := b.m.SetPage(frame, p); e != is {
		b.t.Fatalf("SetPage(%d, of %d): %v, not %v", frame, len(p), e, is)
	}
}

// same holds all bytes of a memory against what they should be.
func (b *both) same() {
	b.t.Helper()
	frames := len(b.want) / api.PageSize
	if b.m.Frames() != frames {
		b.t.Fatalf("Frames: %d, not %d", b.m.Frames(), frames)
	}
	for f := range frames {
		p, e := b.m.Page(f)
		if want := b.want[f*api.PageSize:][:api.PageSize]; !bytes.Equal(p, want) || e != api.OK {
			for i := range want {
				if i < len(p) && p[i] != want[i] {
					b.t.Fatalf("Page(%d): byte %d is %x, not %x; %v", f, i, p[i], want[i], e)
				}
			}
			b.t.Fatalf("Page(%d): %d bytes, %v", f, len(p), e)
		}
	}
}

// wrong asks for a word that isn't to be had in each way, and that this changes nothing.
func (b *both) wrong(at uint64, size int) {
	b.t.Helper()
	if b.refused(at, size) == api.OK {
		b.t.Fatalf("%x, %d is to be had", at, size)
	}
	for _, v := range words {
		b.load(at, size)
		b.store(at, size, v)
		b.swap(at, size, v)
	}
}

// P6.2: the chapter's example.
func TestExample(t *testing.T) {
	m := newMemory(t, 2)
	if e := m.Store(4096, 8, 1); e != api.OK {
		t.Fatalf("Store(4096, 8, 1): %v", e)
	}
	p, e := m.Page(1)
	if e != api.OK || len(p) != 4096 || p[0] != 1 {
		t.Fatalf("Page(1): %v", e)
	}
	if v, e := m.Load(4096, 1); v != 1 || e != api.OK {
		t.Errorf("Load(4096, 1): %x, %v", v, e)
	}
	if v, e := m.Load(0, 8); v != 0 || e != api.OK {
		t.Errorf("Load(0, 8): %x, %v", v, e)
	}
}

// P6.1: a memory has from 1 to 2^20 frames.
func TestNew(t *testing.T) {
	for _, n := range []int{1, 2, 3, 16, 255, 256, 4095, 4096, 65536, api.MostFrames - 1, api.MostFrames} {
		if m := newMemory(t, n); m.Frames() != n {
			t.Errorf("New(%d): %d frames", n, m.Frames())
		}
	}
	for _, n := range append([]int{0, api.MostFrames + 1}, noFrames...) {
		if n == api.MostFrames {
			continue
		}
		if m, e := phys.New(n); m != nil || e != api.ErrArg {
			t.Errorf("New(%d): %v, %v", n, m, e)
		}
	}
}

// P6.1: what a memory is told to do doesn't change how many frames it has.
func TestFramesStay(t *testing.T) {
	b := filled(t, 3)
	b.store(0, 8, 1)
	b.store(3*api.PageSize, 8, 1)
	b.set(3, []byte{1})
	b.set(2, nil)
	b.same()
}

// P6.1, P6.2, P6.3: a new memory reads as noughts, by each call, and as often as it is asked.
func TestNoughts(t *testing.T) {
	for _, frames := range []int{1, 2, 5} {
		for range 2 {
			b := newBoth(t, frames)
			for range 2 {
				for _, size := range sizes {
					for at := uint64(0); at < uint64(len(b.want)); at += uint64(size) {
						b.load(at, size)
					}
				}
				b.same()
			}
			b.swap(0, 8, 0)
			b.swap(uint64(len(b.want))-8, 8, 1)
			b.same()
		}
	}
}

// P6.1, P6.2, P6.3: the greatest memory has its last frame, and costs nothing where nothing was stored.
func TestGreatest(t *testing.T) {
	var before, behind runtime.MemStats
	runtime.ReadMemStats(&before)
	for _, frames := range []int{api.MostFrames - 1, api.MostFrames} {
		m := newMemory(t, frames)
		end := uint64(frames) * api.PageSize
		for _, size := range sizes {
			at := end - uint64(size)
			if v, e := m.Load(at, size); v != 0 || e != api.OK {
				t.Errorf("%d: Load(%x, %d): %x, %v", frames, at, size, v, e)
			}
			if e := m.Store(at, size, 0xaa); e != api.OK {
				t.Errorf("%d: Store(%x, %d): %v", frames, at, size, e)
			}
			if v, e := m.Swap(at, size, 0); v != 0xaa || e != api.OK {
				t.Errorf("%d: Swap(%x, %d): %x, %v", frames, at, size, v, e)
			}
			if e := m.Store(end, size, 1); e != api.ErrBound {
				t.Errorf("%d: Store(%x, %d): %v", frames, end, size, e)
			}
		}
		if e := m.SetPage(frames-1, []byte{7}); e != api.OK {
			t.Errorf("%d: SetPage: %v", frames, e)
		}
		if v, e := m.Load(end-api.PageSize, 8); v != 7 || e != api.OK {
			t.Errorf("%d: Load: %x, %v", frames, v, e)
		}
		if e := m.SetPage(frames, nil); e != api.ErrBound {
			t.Errorf("%d: SetPage behind the end: %v", frames, e)
		}
		if p, e := m.Page(frames); len(p) != 0 || e != api.ErrBound {
			t.Errorf("%d: Page behind the end: %d bytes, %v", frames, len(p), e)
		}
	}
	runtime.ReadMemStats(&behind)
	if n := behind.TotalAlloc - before.TotalAlloc; n > 64<<20 {
		t.Errorf("two memories with a few words took %d bytes", n)
	}
}

// P6.2: a word of each size at each of its places, laid beside bytes that were there.
func TestEachPlace(t *testing.T) {
	for _, size := range sizes {
		b := filled(t, 2)
		for at := uint64(0); at < uint64(len(b.want)); at += uint64(size) {
			b.load(at, size)
			b.store(at, size, 0x0102030405060708*(at+1))
			b.load(at, size)
			b.swap(at, size, ^at)
			b.load(at, size)
		}
		b.same()
	}
}

// P6.2: words of each size in the first and in the last place of each frame change
// their bytes alone, whether something was there or not.
func TestEnds(t *testing.T) {
	for _, of := range []func(*testing.T, int) *both{newBoth, filled} {
		for _, size := range sizes {
			for f := range 3 {
				first := uint64(f) * api.PageSize
				for _, at := range []uint64{first, first + api.PageSize - uint64(size)} {
					for _, v := range words {
						b := of(t, 3)
						b.store(at, size, v)
						b.same()
						b.load(at, size)
						b.swap(at, size, ^v)
						b.same()
						b.swap(at, size, v)
						b.same()
						for _, other := range sizes { // the same bytes, by words of other sizes
							for i := first; i < first+api.PageSize; i += uint64(other) {
								b.load(i, other)
							}
						}
					}
				}
			}
		}
	}
}

// P6.2: of what is stored the lowest bytes are laid, and what is above them is
// never told: a word is as short as it is.
func TestLowest(t *testing.T) {
	m := newMemory(t, 1)
	for _, x := range []struct {
		size       int
		want, then uint64
	}{{1, 0xf8, 0xe8}, {2, 0xf7f8, 0xe7e8}, {4, 0xf5f6f7f8, 0xe5e6e7e8}, {8, 0xf1f2f3f4f5f6f7f8, 0xe1e2e3e4e5e6e7e8}} {
		at := uint64(x.size) * 8
		if e := m.Store(at, x.size, 0xf1f2f3f4f5f6f7f8); e != api.OK {
			t.Errorf("Store of %d: %v", x.size, e)
		}
		if v, e := m.Load(at, x.size); v != x.want || e != api.OK {
			t.Errorf("Load of %d: %x, not %x; %v", x.size, v, x.want, e)
		}
		if v, e := m.Swap(at, x.size, 0xe1e2e3e4e5e6e7e8); v != x.want || e != api.OK {
			t.Errorf("Swap of %d: %x, not %x; %v", x.size, v, x.want, e)
		}
		if v, e := m.Load(at, x.size); v != x.then || e != api.OK {
			t.Errorf("Load of %d: %x, not %x; %v", x.size, v, x.then, e)
		}
	}
}

// P6.2: sizes that no word has, wherever it is: ErrArg comes first.
func TestNoSizes(t *testing.T) {
	b := filled(t, 2)
	end := uint64(len(b.want))
	for _, size := range noSizes {
		for _, at := range append([]uint64{0, 1, 2, 3, 8, 4088, 4095, 4096, end - 8, end - 1, end, end + 1, math.MaxUint64}, far...) {
			b.wrong(at, size)
			if v, e := b.m.Load(at, size); v != 0 || e != api.ErrArg {
				t.Fatalf("Load(%x, %d): %x, %v", at, size, v, e)
			}
		}
	}
	b.same()
}

// P6.2: places that are no multiple of the size: ErrAlign, and ahead of ErrBound.
func TestNotAligned(t *testing.T) {
	b := filled(t, 2)
	end := uint64(len(b.want))
	for _, size := range sizes[1:] {
		for _, first := range append([]uint64{0, 8, 2048, 4088, 4096, end - 8, end, end + 8}, far...) {
			for i := 1; i < 8; i++ {
				at := first + uint64(i)
				if at%uint64(size) == 0 {
					continue
				}
				b.wrong(at, size)
				if v, e := b.m.Swap(at, size, 5); v != 0 || e != api.ErrAlign {
					t.Fatalf("Swap(%x, %d): %x, %v", at, size, v, e)
				}
			}
		}
	}
	b.same()
}

// P6.2: the last place of the last frame is there, the first one behind it isn't, nor any further one.
func TestBound(t *testing.T) {
	for frames := 1; frames < 5; frames++ {
		b := filled(t, frames)
		end := uint64(len(b.want))
		for _, size := range sizes {
			last := end - uint64(size)
			b.load(last, size)
			b.store(last, size, 0x0123456789abcdef)
			b.swap(last, size, 0xfedcba9876543210)
			for _, at := range append([]uint64{end, end + uint64(size), end + 4096 - uint64(size), end + 4096, 2 * end, 1 << 20, 1 << 32, 1<<32 + 8}, far...) {
				b.wrong(at, size)
				if v, e := b.m.Load(at, size); v != 0 || e != api.ErrBound {
					t.Fatalf("Load(%x, %d): %x, %v", at, size, v, e)
				}
			}
		}
		b.wrong(math.MaxUint64, 1)
		b.wrong(math.MaxUint64-1, 2)
		b.wrong(math.MaxUint64-3, 4)
		b.wrong(math.MaxUint64-7, 8)
		b.same()
	}
}

// P6.3: pages of all lengths: noughts stand behind the bytes, whatever was there, and other frames stay.
func TestSetPage(t *testing.T) {
	lengths := []int{0, 1, 2, 7, 8, 9, 100, 2048, api.PageSize - 1, api.PageSize}
	for _, of := range []func(*testing.T, int) *both{newBoth, filled} {
		for f := range 3 {
			for _, n := range lengths {
				b := of(t, 3)
				b.set(f, row(n, 99))
				b.same()
				for _, then := range lengths {
					b.set(f, row(then, 7))
					b.same()
				}
				b.set(f, nil)
				b.same()
				b.set(f, []byte{})
				b.same()
			}
		}
	}
}

// P6.3: a page of noughts is one, like a frame to which nothing was stored.
func TestSetNoughts(t *testing.T) {
	b := filled(t, 2)
	b.set(0, make([]byte, api.PageSize))
	b.set(1, []byte{0})
	b.same()
	b.load(0, 8)
	b.swap(0, 8, 3)
	b.store(8191, 1, 9)
	b.same()
}

// P6.3: more bytes than a page has: ErrArg, and nothing is changed.
func TestTooLong(t *testing.T) {
	for _, of := range []func(*testing.T, int) *both{newBoth, filled} {
		b := of(t, 2)
		for _, n := range []int{api.PageSize + 1, api.PageSize + 2, 2*api.PageSize - 1, 2 * api.PageSize, 2*api.PageSize + 1, 1 << 16, 1 << 20} {
			for f := range 2 {
				b.set(f, row(n, 3))
				if e := b.m.SetPage(f, row(n, 3)); e != api.ErrArg {
					t.Errorf("SetPage(%d, of %d): %v", f, n, e)
				}
			}
			b.same()
		}
	}
}

// P6.3: frames that aren't there: ErrBound, ahead of ErrArg, and nothing is changed.
func TestNoFrames(t *testing.T) {
	for frames := 1; frames < 5; frames++ {
		b := filled(t, frames)
		for _, f := range append([]int{frames, frames + 1, frames * api.PageSize}, noFrames...) {
			if p, e := b.m.Page(f); len(p) != 0 || e != api.ErrBound {
				t.Errorf("of %d: Page(%d): %d bytes, %v", frames, f, len(p), e)
			}
			for _, n := range []int{0, 1, api.PageSize, api.PageSize + 1, 1 << 16} {
				if e := b.m.SetPage(f, row(n, 1)); e != api.ErrBound {
					t.Errorf("of %d: SetPage(%d, of %d): %v", frames, f, n, e)
				}
			}
		}
		b.same()
	}
}

// P6.3: a page that was told is a copy, its spare room too: it shares nothing with
// the memory nor with another one, whether something was stored there or not.
func TestPageIsCopy(t *testing.T) {
	for _, of := range []func(*testing.T, int) *both{newBoth, filled} {
		b := of(t, 2)
		for f := range 2 {
			p, _ := b.m.Page(f)
			other, _ := b.m.Page(f)
			was := bytes.Clone(other)
			spoil(p)
			b.same()
			b.load(uint64(f)*api.PageSize, 8)
			if !bytes.Equal(other, was) {
				t.Fatalf("a page was changed by another one of frame %d", f)
			}
			for i := range uint64(api.PageSize / 8) { // what is stored changes no page that was told
				b.store(uint64(f)*api.PageSize+8*i, 8, ^i)
			}
			b.swap(uint64(f)*api.PageSize, 8, 1)
			b.set(f, row(api.PageSize, 77))
			b.same()
			if !bytes.Equal(other, was) {
				t.Fatalf("a page of frame %d was changed by what was stored", f)
			}
			spoil(other)
			b.same()
		}
	}
}

// P6.3: what is handed to SetPage is neither changed nor kept, nor is the room behind it read.
func TestHandedIn(t *testing.T) {
	for _, of := range []func(*testing.T, int) *both{newBoth, filled} {
		for _, n := range []int{0, 1, 5, 4000, api.PageSize - 1, api.PageSize, api.PageSize + 1} {
			b := of(t, 2)
			p := row(n, 40)
			was := bytes.Clone(whole(p))
			b.set(1, p)
			b.same()
			b.store(4096, 8, 0xaaaaaaaaaaaaaaaa)
			b.swap(8184, 8, 0xbbbbbbbbbbbbbbbb)
			b.set(0, p)
			b.store(0, 8, 0xcccccccccccccccc)
			if !bytes.Equal(whole(p), was) {
				t.Fatalf("a row of %d was changed", n)
			}
			b.same()
			spoil(p)
			b.same()
		}
	}
}

// P6.3: the page of one frame, laid into another, is a second one.
func TestMoved(t *testing.T) {
	b := filled(t, 3)
	p, _ := b.m.Page(0)
	b.set(2, p)
	b.same()
	b.store(0, 8, 1)
	b.store(8192+16, 8, 2)
	b.same()
	b.set(0, p)
	b.same()
}

// P6.2, P6.3: memories are apart from one another.
func TestApart(t *testing.T) {
	all := []*both{newBoth(t, 2), newBoth(t, 2), filled(t, 2), newBoth(t, 3)}
	p := row(api.PageSize, 5)
	for i, b := range all {
		b.store(8*uint64(i), 8, uint64(i+1))
		b.swap(4096, 4, uint64(i+100))
		b.store(64, 1, uint64(i))
		b.set(1, p)
		b.store(4096+8*uint64(i), 8, uint64(i+1))
		for _, o := range all {
			o.same()
		}
	}
}

// P6.1, P6.2, P6.3: asking changes nothing.
func TestAsking(t *testing.T) {
	b := newBoth(t, 2)
	b.store(8, 8, 0x0807060504030201)
	for range 3 {
		b.same()
		for _, size := range append(append([]int{}, sizes...), noSizes...) {
			for _, at := range append([]uint64{0, 8, 9, 4096, 8184, 8192}, far...) {
				b.load(at, size)
			}
		}
		for _, f := range noFrames {
			b.m.Page(f)
		}
	}
	b.same()
}

// chance makes numbers that are alike in each run.
type chance uint64

func (c *chance) next(n uint64) uint64 {
	*c = *c*6364136223846793005 + 1442695040888963407
	return uint64(*c>>20) % n
}

// P6.2, P6.3: words of all sizes, swaps and pages by turns, right and wrong ones.
func TestMany(t *testing.T) {
	for frames := 1; frames < 6; frames++ {
		t.Run(fmt.Sprint(frames), func(t *testing.T) {
			b := newBoth(t, frames)
			c := chance(frames)
			for i := range 20000 {
				size := sizes[c.next(4)]
				at := c.next(uint64(len(b.want)) + 32)
				if c.next(4) != 0 {
					at -= at % uint64(size)
				}
				v := c.next(math.MaxUint64) * 0x100000001b3
				switch k := c.next(100); {
				case k < 35:
					b.load(at, size)
				case k < 70:
					b.store(at, size, v)
				case k < 97:
					b.swap(at, size, v)
				case k < 98:
					b.wrong(at, noSizes[c.next(uint64(len(noSizes)))])
				default:
					b.set(int(c.next(uint64(frames)+2))-1, row(int(c.next(api.PageSize+50)), byte(i)))
				}
				if i%97 == 0 {
					b.same()
				}
			}
			b.same()
		})
	}
}

// P6.1, P6.2, P6.3: a nil memory answers ErrNil ahead of all else, 0 and no bytes.
func TestNil(t *testing.T) {
	var m *phys.Memory
	for range 2 {
		if m.Frames() != 0 {
			t.Errorf("Frames: %d", m.Frames())
		}
		for _, size := range append(append([]int{}, sizes...), noSizes...) {
			for _, at := range append([]uint64{0, 1, 3, 8, 4095, 4096, math.MaxUint64}, far...) {
				if v, e := m.Load(at, size); v != 0 || e != api.ErrNil {
					t.Fatalf("Load(%x, %d): %x, %v", at, size, v, e)
				}
				if e := m.Store(at, size, 1); e != api.ErrNil {
					t.Fatalf("Store(%x, %d): %v", at, size, e)
				}
				if v, e := m.Swap(at, size, 1); v != 0 || e != api.ErrNil {
					t.Fatalf("Swap(%x, %d): %x, %v", at, size, v, e)
				}
			}
		}
		for _, f := range append([]int{0, 1, 2, 1000, api.MostFrames - 1}, noFrames...) {
			if p, e := m.Page(f); len(p) != 0 || e != api.ErrNil {
				t.Errorf("Page(%d): %d bytes, %v", f, len(p), e)
			}
			for _, n := range []int{0, 1, api.PageSize, api.PageSize + 1} {
				if e := m.SetPage(f, row(n, 1)); e != api.ErrNil {
					t.Errorf("SetPage(%d, of %d): %v", f, n, e)
				}
			}
			if e := m.SetPage(f, nil); e != api.ErrNil {
				t.Errorf("SetPage(%d, nil): %v", f, e)
			}
		}
	}
}
