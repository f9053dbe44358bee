package space_test

import (
	"bytes"
	"maps"
	"math"
	"slices"
	"testing"

	"runrig/api"
	"runrig/mmu"
	"runrig/perm"
	"runrig/pte"
	"runrig/space"
	"runrig/tlb"
)

const (
	all  = math.MaxUint64
	kib4 = 1 << 12
)

// The bases, as the chapter tells them.
const (
	codeBase   = 0x10000
	ownBase    = 0x20000
	sharedBase = 0x40000000
)

// sizes are those of words; accesses all there are; rights all there are.
var (
	sizes    = []int{1, 2, 4, 8}
	accesses = []api.Access{api.Fetch, api.Load, api.Store}
	rights   = []api.Right{api.None, api.Read, api.Write}
)

// noRights are none: those just outside, near the ends of int, and such as are one in fewer bits.
var noRights = []api.Right{
	-1, -2, -3, 3, 4, 5, 8, 255, 256, 257, 258, 65536, 65537, 1 << 32, 1<<32 + 1, 1<<32 + 2, -1 << 32,
	math.MaxInt, math.MaxInt - 1, math.MinInt, math.MinInt + 1, math.MinInt + 2,
}

// noPages are pages that aren't there, of n that are.
func noPages(n int) []int {
	return []int{
		-1, -2, -n, -n - 1, n, n + 1, n + 511, n + 512, 65536, 65537, 1 << 32, 1<<32 + 1, 1 << 52, 1<<52 + 1, -1 << 32, 1 - 1<<52,
		math.MaxInt, math.MaxInt - 1, math.MinInt, math.MinInt + 1,
	}
}

// notCanonical: words just beyond both halves, and pages' addresses with a bit above that is unlike.
func notCanonical() []uint64 {
	l := []uint64{1 << 38, 1<<39 - 1, 1 << 39, 1<<63 - 1, 1 << 63, 0xffffffbfffffffff}
	for i := 38; i < 64; i++ {
		for _, va := range []uint64{codeBase, ownBase, sharedBase, sharedBase + 4*kib4} {
			l = append(l, va|1<<i)
		}
	}
	return l
}

// like is what a space should be. Frames are taken in their order, as none is ever given back.
type like struct {
	shape  api.Shape
	frames int // in all
	used   int
	code   []int
	own    []int
	shared map[int]int       // frames of shared pages
	right  map[int]api.Right // that isn't None
	middle int               // the table above those of shared pages; 0: none
	low    map[int]int       // these, by 512 pages
	bytes  map[int][]byte    // of frames in which something is
	buffer *tlb.Buffer
}

// newLike: what New should answer of a shape that may be; nil: ErrFull.
func newLike(sh api.Shape, n, sets, ways int) *like {
	l := &like{
		shape: sh, frames: n, used: 3, shared: map[int]int{}, right: map[int]api.Right{},
		low: map[int]int{}, bytes: map[int][]byte{},
	}
	l.buffer, _ = tlb.New(sets, ways)
	for range sh.Code {
		l.code = append(l.code, l.used)
		l.used++
	}
	for range sh.Private {
		l.own = append(l.own, l.used)
		l.used++
	}
	if l.used > n {
		return nil
	}
	return l
}

// take a frame: 0, if there is none.
func (l *like) take() int {
	if l.used == l.frames {
		return 0
	}
	l.used++
	return l.used - 1
}

// set is what Set should be.
func (l *like) set(page int, r api.Right) api.Errno {
	if page < 0 || page >= l.shape.Shared {
		return api.ErrNone
	}
	if r < 0 || r > 2 {
		return api.ErrArg
	}
	if r == l.right[page] {
		return api.OK
	}
	if r != api.None && !l.room(page) {
		return api.ErrFull
	}
	l.right[page] = r
	l.buffer.Fence([]uint64{sharedBase + kib4*uint64(page)}, nil)
	return api.OK
}

// room for a shared page that is to be mapped: its frame, and its tables.
func (l *like) room(page int) bool {
	if !l.frame(page) {
		return false
	}
	if l.middle == 0 {
		l.middle = l.take()
	}
	if l.middle == 0 {
		return false
	}
	if l.low[page/512] == 0 {
		l.low[page/512] = l.take()
	}
	return l.low[page/512] != 0
}

// frame for a shared page, if it has none.
func (l *like) frame(page int) bool {
	if l.shared[page] != 0 {
		return true
	}
	f := l.take()
	if f == 0 {
		return false
	}
	l.shared[page] = f
	return true
}

// setData is what SetData should be.
func (l *like) setData(page int, b []byte) api.Errno {
	if page < 0 || page >= l.shape.Shared {
		return api.ErrNone
	}
	if len(b) > kib4 {
		return api.ErrArg
	}
	if !l.frame(page) {
		return api.ErrFull
	}
	l.bytes[l.shared[page]] = append(slices.Clone(b), make([]byte, kib4-len(b))...)
	return api.OK
}

// lay code, as Code should.
func (l *like) lay(at int, b []byte) api.Errno {
	size := l.shape.Code * kib4
	if at < 0 || at > size || len(b) > size || at+len(b) > size {
		return api.ErrArg
	}
	for i, x := range b {
		l.of(l.code[(at+i)/kib4])[(at+i)%kib4] = x
	}
	return api.OK
}

// of a frame the bytes.
func (l *like) of(frame int) []byte {
	if l.bytes[frame] == nil {
		l.bytes[frame] = make([]byte, kib4)
	}
	return l.bytes[frame]
}

// data that a shared page should have; nil: there is no such page.
func (l *like) data(page int) []byte {
	if page < 0 || page >= l.shape.Shared {
		return nil
	}
	if f := l.shared[page]; f != 0 {
		return l.of(f)
	}
	return make([]byte, kib4)
}

// flags of a right, written out.
func flags(r api.Right, ppn int) api.Pte {
	if r == api.Read {
		return api.Pte{V: true, R: true, U: true, A: true, Ppn: uint64(ppn)}
	}
	return api.Pte{V: true, R: true, W: true, U: true, A: true, D: true, Ppn: uint64(ppn)}
}

// pages that should be mapped.
func (l *like) pages() []api.Mapped {
	var list []api.Mapped
	for i, f := range l.code {
		p := api.Pte{V: true, R: true, X: true, U: true, A: true, Ppn: uint64(f)}
		list = append(list, api.Mapped{Va: codeBase + kib4*uint64(i), Pte: p})
	}
	for i, f := range l.own {
		list = append(list, api.Mapped{Va: ownBase + kib4*uint64(i), Pte: flags(api.Write, f)})
	}
	for _, page := range slices.Sorted(maps.Keys(l.right)) {
		if r := l.right[page]; r != api.None {
			list = append(list, api.Mapped{Va: sharedBase + kib4*uint64(page), Pte: flags(r, l.shared[page])})
		}
	}
	return list
}

// leaf that Find should tell.
func (l *like) leaf(va uint64) (api.Leaf, bool) {
	low := 2 // the root is 0, the table below it 1
	if va >= sharedBase {
		low = l.low[int(va-sharedBase)/kib4/512]
	}
	for _, p := range l.pages() {
		if p.Va == va/kib4*kib4 {
			return api.Leaf{Pte: p.Pte, At: uint64(low)*kib4 + 8*(va/kib4%512)}, true
		}
	}
	return api.Leaf{}, false
}

// causes of the accesses: align, page. (No page is beyond the memory.)
var causes = map[api.Access][2]api.Cause{
	api.Fetch: {api.FetchAlign, api.FetchPage},
	api.Load:  {api.LoadAlign, api.LoadPage},
	api.Store: {api.StoreAlign, api.StorePage},
}

// reach what an access should come to: the frame's bytes from its first one on, or a cause.
func (l *like) reach(va uint64, size int, a api.Access, pick int) ([]byte, api.Cause) {
	if !slices.Contains(sizes, size) || va%uint64(size) != 0 {
		return nil, causes[a][0]
	}
	leaf, ok := l.leaf(va)
	if !ok {
		return nil, causes[a][1]
	}
	if _, is := l.buffer.Find(va, 1); !is {
		l.buffer.Fill(va, 1, leaf, pick)
	}
	code := va < ownBase
	if a == api.Fetch && !code || a == api.Store && !leaf.Pte.W {
		return nil, causes[a][1]
	}
	return l.of(int(leaf.Pte.Ppn))[va%kib4:][:size], api.NoCause
}

// both is a space, and what it should be.
type both struct {
	t *testing.T
	s *space.Space
	l *like
}

// some space of a shape, in so many frames.
func some(t *testing.T, sh api.Shape, n, sets, ways int) *both {
	t.Helper()
	s, e := space.New(sh, n, sets, ways)
	if s == nil || e != api.OK {
		t.Fatalf("New(%+v, %d, %d, %d): %v", sh, n, sets, ways, e)
	}
	return &both{t, s, newLike(sh, n, sets, ways)}
}

// usual is a space with room for all.
func usual(t *testing.T) *both {
	t.Helper()
	sh := api.Shape{Code: 3, Private: 2, Shared: 5}
	return some(t, sh, space.Need(sh), 4, 2)
}

// same holds all that a space tells against what it should be.
func (b *both) same() {
	b.t.Helper()
	if x, y := b.s.Used(); x != b.l.used || y != len(b.l.shared) {
		b.t.Fatalf("Used: %d, %d, not %d, %d", x, y, b.l.used, len(b.l.shared))
	}
	if b.s.Frames() != b.l.frames {
		b.t.Fatalf("Frames: %d, not %d", b.s.Frames(), b.l.frames)
	}
	if is, should := b.s.Pages(), b.l.pages(); !slices.Equal(is, should) {
		b.t.Fatalf("Pages:\n%+v, not\n%+v", is, should)
	}
	b.slots()
	b.beside()
	for i, f := range b.l.own {
		if is := b.s.Own(i); !bytes.Equal(is, b.l.of(f)) {
			b.t.Fatalf("Own(%d): %x, not\n%x", i, is, b.l.of(f))
		}
	}
	if b.l.shape.Shared <= 16 {
		for page := range b.l.shape.Shared {
			b.page(page)
		}
		return
	}
	for page := range b.l.shared {
		b.page(page)
	}
}

// page holds a shared page's right and bytes against what they should be.
func (b *both) page(page int) {
	b.t.Helper()
	if r := b.s.Right(page); r != b.l.right[page] {
		b.t.Fatalf("Right(%d): %v, not %v", page, r, b.l.right[page])
	}
	if is := b.s.Data(page); !bytes.Equal(is, b.l.data(page)) {
		b.t.Fatalf("Data(%d): %x, not\n%x", page, is, b.l.data(page))
	}
}

// slots holds the buffer against what it should be, and against what the tables allow.
func (b *both) slots() {
	b.t.Helper()
	l := b.s.Slots()
	if should := b.l.buffer.List(); !slices.Equal(l, should) {
		b.t.Fatalf("Slots:\n%+v, not\n%+v", l, should)
	}
	for _, x := range l {
		leaf, _ := b.s.Find(x.Page * kib4)
		if leaf.Pte.Ppn != x.Leaf.Pte.Ppn {
			b.t.Fatalf("the buffer has %+v, the tables %+v", x, leaf)
		}
		for _, a := range accesses {
			if user := (api.Mode{User: true}); perm.Check(x.Leaf.Pte, a, user) && !perm.Check(leaf.Pte, a, user) {
				b.t.Fatalf("%+v allows %d, %+v doesn't", x, a, leaf)
			}
		}
	}
}

// beside one another: each entry of the buffer is one of a page that is mapped so.
func (b *both) beside() {
	b.t.Helper()
	l := b.s.Pages()
	for _, x := range b.s.Slots() {
		p := api.Mapped{Va: x.Page * kib4, Level: x.Leaf.Level, Pte: x.Leaf.Pte}
		if !slices.Contains(l, p) {
			b.t.Fatalf("the buffer has %+v, mapped are %+v", x, l)
		}
	}
}

// sets a right in both.
func (b *both) sets(page int, r api.Right, want api.Errno) {
	b.t.Helper()
	should := b.l.set(page, r)
	if e := b.s.Set(page, r); e != should || e != want {
		b.t.Fatalf("Set(%d, %d): %v, not %v (%v)", page, r, e, want, should)
	}
}

// lays a shared page's bytes in both.
func (b *both) lays(page int, data []byte, want api.Errno) {
	b.t.Helper()
	should := b.l.setData(page, data)
	if e := b.s.SetData(page, data); e != should || e != want {
		b.t.Fatalf("SetData(%d, %d bytes): %v, not %v (%v)", page, len(data), e, want, should)
	}
}

// codes lays code in both.
func (b *both) codes(at int, code []byte, want api.Errno) {
	b.t.Helper()
	should := b.l.lay(at, code)
	if e := b.s.Code(at, code); e != should || e != want {
		b.t.Fatalf("Code(%d, %d bytes): %v, not %v (%v)", at, len(code), e, want, should)
	}
}

// word of bytes, the lowest first.
func word(b []byte) uint64 {
	w := uint64(0)
	for i, x := range b {
		w |= uint64(x) << (8 * i)
	}
	return w
}

// access in both; what came of it is told. (Of a fetch the size is 4.)
func (b *both) access(va uint64, size int, a api.Access, v uint64, pick int) api.Cause {
	b.t.Helper()
	place, should := b.l.reach(va, size, a, pick)
	var w uint64
	var c api.Cause
	switch a {
	case api.Fetch:
		w, c = b.s.Unit().Fetch(va, pick)
	case api.Load:
		w, c = b.s.Unit().Load(va, size, pick)
	case api.Store:
		c = b.s.Unit().Store(va, size, v, pick)
		for i := range place {
			place[i] = byte(v >> (8 * i))
		}
	}
	if c != should {
		b.t.Fatalf("access %d of %d at %x: %v, not %v", a, size, va, c, should)
	}
	if a != api.Store && w != word(place) {
		b.t.Fatalf("access %d of %d at %x: %x, not %x", a, size, va, w, word(place))
	}
	return c
}

// three accesses of an address, of a byte where that may be: which come through.
func (b *both) three(va uint64) [3]bool {
	b.t.Helper()
	return [3]bool{
		b.access(va/4*4, 4, api.Fetch, 0, 0) == api.NoCause,
		b.access(va, 1, api.Load, 0, 0) == api.NoCause,
		b.access(va, 1, api.Store, 0x80|va%97, 0) == api.NoCause,
	}
}

// finds holds Find against what it should be.
func (b *both) finds(va uint64) {
	b.t.Helper()
	leaf, ok := b.s.Find(va)
	if l, is := b.l.leaf(va); leaf != l || ok != is {
		b.t.Fatalf("Find(%x): %+v, %v, not %+v, %v", va, leaf, ok, l, is)
	}
}

// counts holds Used.
func (b *both) counts(frames, shared int) {
	b.t.Helper()
	if x, y := b.s.Used(); x != frames || y != shared {
		b.t.Fatalf("Used: %d, %d, not %d, %d", x, y, frames, shared)
	}
}

// around an address: its page's first and last bytes and just beside them, and within.
func around(va uint64) []uint64 {
	return []uint64{va - kib4, va - 8, va - 4, va - 1, va, va + 1, va + 4, va + 0x7f8, va + kib4 - 8, va + kib4 - 4, va + kib4 - 1, va + kib4, va + kib4 + 8}
}

// filled bytes, none of them noughts, unlike from one seed to the next.
func filled(n, seed int) []byte {
	b := make([]byte, n)
	for i := range b {
		b[i] = byte((i*7+seed*31)%255 + 1)
	}
	return b
}

// shapes that may be, at all ends.
func shapes() []api.Shape {
	var l []api.Shape
	for _, c := range []int{1, 2, 15, 16} {
		for _, p := range []int{0, 1, 15, 16} {
			for _, s := range []int{0, 1, 2, 511, 512, 513, 1023, 1024, 1025, 65535, 65536} {
				l = append(l, api.Shape{Code: c, Private: p, Shared: s})
			}
		}
	}
	return l
}

// noShapes may not be: each number just outside and near the ends of int, and such as may be in fewer bits.
func noShapes() []api.Shape {
	ends := []int{
		-1, -2, -16, math.MinInt, math.MinInt + 1, math.MinInt + 16, math.MaxInt, math.MaxInt - 1,
		1 << 32, 1<<32 + 1, 1<<32 + 16, -1 << 32, 1 - 1<<32, 257, 1 << 62, 65537, 65552,
	}
	var l []api.Shape
	for _, x := range append(ends, 0, 17, 18, 65536) {
		l = append(l, api.Shape{Code: x}, api.Shape{Code: x, Private: 1, Shared: 9}, api.Shape{Code: x, Private: 16, Shared: 65536})
	}
	for _, x := range append(ends, 17, 18, 65536) {
		l = append(l, api.Shape{Code: 1, Private: x}, api.Shape{Code: 16, Private: x, Shared: 65536})
	}
	for _, x := range ends {
		if x != 257 {
			l = append(l, api.Shape{Code: 1, Shared: x}, api.Shape{Code: 16, Private: 16, Shared: x})
		}
	}
	return append(l, api.Shape{}, api.Shape{Private: 1, Shared: 1}, api.Shape{Code: 17, Private: 17, Shared: 65537})
}

// P14.1: shapes at all ends, right and wrong.
func TestNewShapes(t *testing.T) {
	for _, sh := range shapes() {
		b := some(t, sh, 3+sh.Code+sh.Private, 1, 1)
		b.counts(3+sh.Code+sh.Private, 0)
		for page := range sh.Private {
			if b.s.Own(page) == nil {
				t.Errorf("%+v: Own(%d) is none", sh, page)
			}
		}
	}
	for _, sh := range noShapes() {
		for _, n := range []int{1, 3, 100, api.MostFrames} {
			if s, e := space.New(sh, n, 4, 2); s != nil || e != api.ErrArg {
				t.Errorf("New(%+v, %d): %v", sh, n, e)
			}
		}
	}
}

// P14.1: frames, sets and ways as the layers below want them, and ErrArg ahead of ErrFull.
func TestNewArgs(t *testing.T) {
	sh := api.Shape{Code: 1, Private: 1, Shared: 1}
	noFrames := []int{-1, 0, api.MostFrames + 1, -api.MostFrames, math.MinInt, math.MinInt + 1, math.MaxInt, 1 << 32, 1<<32 + 9}
	noSets := []int{-1, -2, 0, 3, 5, 6, 7, 12, 48, 63, 65, 96, 128, 256, 1<<32 + 4, 1 << 32, 1 << 62, math.MinInt, math.MaxInt, math.MinInt + 4}
	noWays := []int{-1, -8, 0, 9, 10, 16, 256, 257, 1 << 32, 1<<32 + 1, math.MinInt, math.MaxInt, math.MinInt + 1}
	wrong := func(sh api.Shape, n, sets, ways int) {
		t.Helper()
		if s, e := space.New(sh, n, sets, ways); s != nil || e != api.ErrArg {
			t.Errorf("New(%+v, %d, %d, %d): %v", sh, n, sets, ways, e)
		}
	}
	for _, n := range noFrames {
		wrong(sh, n, 4, 2)
		wrong(sh, n, 3, 9)
	}
	for _, n := range []int{1, 2, 4, 5, 9, api.MostFrames} {
		for _, sets := range noSets {
			wrong(sh, n, sets, 2)
		}
		for _, ways := range noWays {
			wrong(sh, n, 4, ways)
		}
		wrong(api.Shape{Code: 1, Shared: -1}, n, 4, 2)
	}
	for sets := 1; sets <= 64; sets *= 2 {
		for ways := 1; ways <= 8; ways++ {
			some(t, sh, 5, sets, ways).same()
			if s, e := space.New(sh, 4, sets, ways); s != nil || e != api.ErrFull {
				t.Errorf("New of 4 frames, %d, %d: %v", sets, ways, e)
			}
		}
	}
	some(t, sh, api.MostFrames, 64, 8).same()
}

// P14.1: frames just enough for the beginning, and each number below.
func TestNewFull(t *testing.T) {
	for _, sh := range []api.Shape{{Code: 1}, {Code: 16}, {Code: 1, Private: 16}, {Code: 16, Private: 16, Shared: 65536}, {Code: 3, Private: 2, Shared: 5}} {
		least := 3 + sh.Code + sh.Private
		for n := 1; n < least; n++ {
			if s, e := space.New(sh, n, 2, 2); s != nil || e != api.ErrFull {
				t.Errorf("New(%+v, %d): %v", sh, n, e)
			}
		}
		for n := least; n < least+3; n++ {
			b := some(t, sh, n, 2, 2)
			b.same()
			b.counts(least, 0)
		}
	}
}

// P14.1: Need of each shape, and none of those that may not be.
func TestNeed(t *testing.T) {
	tables := map[int]int{0: 3, 1: 5, 2: 5, 511: 5, 512: 5, 513: 6, 1023: 6, 1024: 6, 1025: 7, 65535: 132, 65536: 132}
	for _, sh := range shapes() {
		want := tables[sh.Shared] + sh.Code + sh.Private + sh.Shared
		if n := space.Need(sh); n != want {
			t.Errorf("Need(%+v): %d, not %d", sh, n, want)
		}
	}
	for _, sh := range noShapes() {
		if n := space.Need(sh); n != 0 {
			t.Errorf("Need(%+v): %d", sh, n)
		}
	}
	last := 4 // of no shared page
	for n := 1; n <= 65536; n++ {
		more := 1
		switch {
		case n == 1:
			more = 3
		case n%512 == 1:
			more = 2
		}
		last += more
		if need := space.Need(api.Shape{Code: 1, Shared: n}); need != last {
			t.Fatalf("Need of %d shared pages: %d, not %d", n, need, last)
		}
	}
}

// P14.1: so many frames suffice, when each page is set and laid, and all of them are wanted.
func TestNeedSuffices(t *testing.T) {
	for _, sh := range []api.Shape{
		{Code: 1}, {Code: 1, Shared: 1}, {Code: 2, Private: 1, Shared: 2}, {Code: 16, Private: 16, Shared: 511}, {Code: 1, Shared: 512},
		{Code: 1, Private: 1, Shared: 513}, {Code: 1, Shared: 1024}, {Code: 1, Shared: 1025},
	} {
		need := space.Need(sh)
		for _, step := range []int{1, 11, 1021} { // each comes by all pages
			b := some(t, sh, need, 8, 2)
			for i := range sh.Shared {
				page := i * step % sh.Shared
				b.sets(page, rights[1+i%2], api.OK)
				b.lays(page, filled(kib4, page), api.OK)
			}
			b.same()
			b.counts(need, sh.Shared)
		}
		if sh.Shared == 0 {
			continue
		}
		b := some(t, sh, need-1, 8, 2)
		for page := range sh.Shared - 1 {
			b.sets(page, api.Write, api.OK)
		}
		b.sets(sh.Shared-1, api.Read, api.ErrFull)
		b.same()
	}
}

// P14.1: the greatest shape.
func TestGreatest(t *testing.T) {
	sh := api.Shape{Code: 16, Private: 16, Shared: 65536}
	s, e := space.New(sh, space.Need(sh), 64, 8)
	if e != api.OK {
		t.Fatal(e)
	}
	for i := range 65536 {
		if e := s.Set(i*7919%65536, rights[1+i%2]); e != api.OK {
			t.Fatalf("Set: %v", e)
		}
	}
	if x, y := s.Used(); x != space.Need(sh) || y != 65536 || s.Frames() != x {
		t.Errorf("%d, %d, %d", x, y, s.Frames())
	}
	if len(s.Pages()) != 65536+32 {
		t.Errorf("%d pages", len(s.Pages()))
	}
	if p, ok := s.Which(0x4fffffff); p != 65535 || !ok || s.Right(p) == api.None {
		t.Errorf("%d, %v", p, ok)
	}
}

// P14.1: each space has a memory and a buffer of its own.
func TestApart(t *testing.T) {
	x, y := usual(t), usual(t)
	x.codes(0, filled(2*kib4, 1), api.OK)
	x.sets(2, api.Write, api.OK)
	x.access(sharedBase+2*kib4+8, 8, api.Store, 77, 0)
	x.access(ownBase, 8, api.Store, 78, 0)
	x.lays(1, filled(9, 2), api.OK)
	x.same()
	y.same()
	y.three(ownBase)
	y.sets(1, api.Read, api.OK)
	x.same()
	y.same()
}

// P14.4: what a new one has.
func TestBegin(t *testing.T) {
	for _, sh := range []api.Shape{{Code: 1}, {Code: 2, Private: 1, Shared: 3}, {Code: 16, Private: 16, Shared: 9}, {Code: 1, Private: 3}, {Code: 5, Shared: 600}} {
		b := some(t, sh, 40, 4, 2)
		b.same()
		b.counts(3+sh.Code+sh.Private, 0)
		if b.s.Frames() != 40 || len(b.s.Slots()) != 0 {
			t.Errorf("%+v: %d, %v", sh, b.s.Frames(), b.s.Slots())
		}
		l := b.s.Pages()
		if len(l) != sh.Code+sh.Private {
			t.Fatalf("%+v: Pages: %+v", sh, l)
		}
		for i, p := range l {
			va, may := codeBase+kib4*uint64(i), "vr-xu-a-"
			if i >= sh.Code {
				va, may = ownBase+kib4*uint64(i-sh.Code), "vrw-u-ad"
			}
			if p.Va != va || p.Level != 0 || perm.Text(p.Pte) != may || p.Pte.Rsw != 0 {
				t.Errorf("%+v: page %d: %+v", sh, i, p)
			}
			// The root and the two tables stand ahead of the pages, code ahead of own ones.
			if p.Pte.Ppn != uint64(3+i) {
				t.Errorf("%+v: page %d is in the frame %d", sh, i, p.Pte.Ppn)
			}
		}
		u := b.s.Unit()
		if u == nil || u != b.s.Unit() || u.Satp() != (api.Satp{On: true, Asid: 1, Ppn: 0}) {
			t.Errorf("%+v: %+v", sh, u.Satp())
		}
	}
}

// P14.4: what accesses come to all over the pages of each kind, just beside them, and between them.
func TestAccesses(t *testing.T) {
	b := usual(t)
	b.codes(0, filled(3*kib4, 5), api.OK)
	b.sets(1, api.Read, api.OK)
	b.sets(3, api.Write, api.OK)
	b.lays(1, filled(kib4, 6), api.OK)
	b.lays(3, filled(kib4, 7), api.OK)
	for _, x := range []struct {
		va  uint64
		may [3]bool
	}{
		{0, [3]bool{}}, {8, [3]bool{}}, {0xffff, [3]bool{}}, {0x10000, [3]bool{true, true}}, {0x10fff, [3]bool{true, true}},
		{0x11000, [3]bool{true, true}}, {0x12fff, [3]bool{true, true}}, {0x13000, [3]bool{}}, {0x1ffff, [3]bool{}},
		{0x20000, [3]bool{false, true, true}}, {0x21fff, [3]bool{false, true, true}}, {0x22000, [3]bool{}}, {0x30000, [3]bool{}},
		{0x3fffffff, [3]bool{}}, {0x40000000, [3]bool{}}, {0x40000fff, [3]bool{}}, {0x40001000, [3]bool{false, true}},
		{0x40001fff, [3]bool{false, true}}, {0x40002000, [3]bool{}}, {0x40003000, [3]bool{false, true, true}},
		{0x40003fff, [3]bool{false, true, true}}, {0x40004000, [3]bool{}}, {0x40005000, [3]bool{}}, {0x40201000, [3]bool{}},
		{0x80001000, [3]bool{}}, {0x3fffffffff, [3]bool{}}, {0xffffffc040001000, [3]bool{}}, {all, [3]bool{}},
	} {
		if may := b.three(x.va); may != x.may {
			t.Errorf("at %x: %v, not %v", x.va, may, x.may)
		}
		b.same()
	}
	var places []uint64
	for _, va := range []uint64{0x10000, 0x12000, 0x13000, 0x20000, 0x21000, 0x40001000, 0x40003000, 0x40005000} {
		places = append(places, around(va)...)
	}
	for _, va := range append(places, notCanonical()...) {
		for _, size := range append(sizes, 0, 3, 16, -1) {
			b.access(va, size, api.Load, 0, 1)
			b.access(va, size, api.Store, 0x0123456789abcdef+va, 2)
		}
		b.access(va, 4, api.Fetch, 0, 3)
		b.slots()
	}
	b.same()
}

// P14.4: the unit is a user's.
func TestUser(t *testing.T) {
	b := usual(t)
	u := b.s.Unit()
	if _, c := u.Load(ownBase, 8, 0); c != api.NoCause {
		t.Errorf("Load: %v", c)
	}
	u.SetMode(api.Mode{})
	if _, c := u.Load(ownBase, 8, 0); c != api.LoadPage {
		t.Errorf("Load of the kernel: %v", c)
	}
	if _, c := u.Fetch(codeBase, 0); c != api.FetchPage {
		t.Errorf("Fetch of the kernel: %v", c)
	}
}

// P14.2: Code at all ends.
func TestCode(t *testing.T) {
	for _, n := range []int{1, 2, 16} {
		b := some(t, api.Shape{Code: n, Private: 1, Shared: 2}, 40, 4, 2)
		size := n * kib4
		sees := func() {
			t.Helper()
			for at := 0; at < size; at += 4 {
				b.access(codeBase+uint64(at), 4, api.Fetch, 0, at)
			}
			b.same()
		}
		for i, at := range []int{0, 1, 5, 4093, 4095, 4096, 4097, size - 4097, size - 4096, size - 2, size - 1, size} {
			for _, long := range []int{0, 1, 2, 3, 4095, 4096, 4097, 4098, 9000, size, size + 1} {
				should := api.ErrArg
				if at >= 0 && at+long <= size {
					should = api.OK
				}
				b.codes(at, filled(long, i+long), should)
			}
			sees()
			if at >= 0 && at <= size {
				b.codes(at, filled(size-at, i+9), api.OK)
				sees()
				b.codes(at, filled(size-at+1, i), api.ErrArg)
				sees()
			}
		}
		for _, at := range []int{-1, -2, -kib4, size + 1, size + 4096, math.MaxInt, math.MaxInt - 1, math.MinInt, math.MinInt + 1, 1 << 32, 1 << 52, -1 << 32} {
			for _, long := range []int{0, 1, 2, 4096, size} {
				b.codes(at, filled(long, 3), api.ErrArg)
			}
		}
		sees()
	}
}

// P14.2: code that is laid anew is fetched, though the buffer has its page; what was handed in isn't kept, nor changed.
func TestCodeKept(t *testing.T) {
	b := usual(t)
	room := filled(100, 4)
	code := room[:50]
	held := slices.Clone(room)
	b.codes(4090, code, api.OK)
	b.access(codeBase+4092, 4, api.Fetch, 0, 0)
	if !bytes.Equal(room, held) {
		t.Errorf("what was handed in is %x, not %x", room, held)
	}
	for i := range room {
		room[i] = 0xee
	}
	b.access(codeBase+4092, 4, api.Fetch, 0, 0)
	b.access(codeBase+4096, 8, api.Load, 0, 0)
	b.codes(4094, []byte{1, 2, 3}, api.OK)
	b.access(codeBase+4092, 4, api.Fetch, 0, 0)
	b.access(codeBase+4096, 4, api.Fetch, 0, 0)
	b.same()
}

// P14.2: Which at the ends of the first and the last page, and beyond.
func TestWhich(t *testing.T) {
	for _, n := range []int{0, 1, 2, 5, 512, 513, 65535, 65536} {
		b := some(t, api.Shape{Code: 1, Shared: n}, 4, 1, 1)
		end := sharedBase + kib4*uint64(n)
		is := func(va uint64, page int, ok bool) {
			t.Helper()
			if p, is := b.s.Which(va); p != page || is != ok {
				t.Errorf("%d pages: Which(%x): %d, %v, not %d, %v", n, va, p, is, page, ok)
			}
		}
		for _, va := range []uint64{0, 1, codeBase, ownBase, sharedBase - 1, sharedBase - kib4, end, end + 1, end + kib4, 0x50000000, 0x80000000, 1 << 38, 1 << 44, 1<<44 + sharedBase, 1<<63 + sharedBase, all - kib4, all} {
			is(va, 0, false)
		}
		for _, va := range notCanonical() {
			is(va, 0, false)
		}
		for _, page := range []int{0, 1, n / 2, n - 2, n - 1} {
			if page < 0 || page >= n {
				continue
			}
			first := sharedBase + kib4*uint64(page)
			for _, step := range []uint64{0, 1, 8, 2048, 4095} {
				is(first+step, page, true)
			}
			if page > 0 {
				is(first-1, page-1, true)
			}
			b.s.Set(page, api.Read) // a right changes nothing of it
			is(first, page, true)
		}
	}
}

// P14.2: pages that aren't there, with frames and rights of those that are, and without.
func TestNoPages(t *testing.T) {
	for _, sh := range []api.Shape{{Code: 1}, {Code: 3, Private: 2, Shared: 5}, {Code: 1, Private: 16, Shared: 1}, {Code: 2, Shared: 512}} {
		b := some(t, sh, space.Need(sh)+9, 4, 2)
		for range 2 {
			for _, page := range noPages(sh.Shared) {
				if page >= 0 && page < sh.Shared {
					continue
				}
				if r, l := b.s.Right(page), b.s.Data(page); r != api.None || len(l) != 0 {
					t.Errorf("%+v: %d: %v, %d bytes", sh, page, r, len(l))
				}
				for _, r := range append(rights, noRights...) {
					b.sets(page, r, api.ErrNone)
				}
				for _, n := range []int{0, 1, 4096, 4097} {
					b.lays(page, filled(n, 1), api.ErrNone)
				}
			}
			for _, page := range noPages(sh.Private) {
				if l := b.s.Own(page); len(l) != 0 {
					t.Errorf("%+v: Own(%d): %d bytes", sh, page, len(l))
				}
			}
			b.same()
			for page := range sh.Shared {
				b.sets(page, api.Write, api.OK)
			}
		}
	}
}

// P14.2: bytes are told as copies.
func TestCopies(t *testing.T) {
	b := usual(t)
	b.sets(1, api.Write, api.OK)
	b.lays(1, filled(kib4, 1), api.OK)
	b.access(ownBase+kib4, 8, api.Store, 99, 0)
	for range 2 {
		got := [][]byte{b.s.Data(0), b.s.Data(1), b.s.Own(0), b.s.Own(1)}
		held := [][]byte{}
		for i, l := range got {
			if len(l) != kib4 {
				t.Fatalf("%d: %d bytes", i, len(l))
			}
			held = append(held, slices.Clone(l))
		}
		b.lays(0, filled(20, 2), api.OK)
		b.access(sharedBase+kib4, 8, api.Store, 5, 0)
		b.access(ownBase, 8, api.Store, 6, 0)
		b.access(ownBase+kib4, 8, api.Store, 7, 0)
		for i, l := range got {
			if !bytes.Equal(l, held[i]) {
				t.Errorf("%d: what was told has changed", i)
			}
			l = l[:cap(l)]
			for j := range l {
				l[j] = 0x5a
			}
		}
		b.same()
	}
}

// P14.3: from each right to each one, with accesses just before it and behind it.
func TestSet(t *testing.T) {
	may := map[api.Right][3]bool{api.None: {}, api.Read: {false, true}, api.Write: {false, true, true}}
	text := map[api.Right]string{api.Read: "vr--u-a-", api.Write: "vrw-u-ad"}
	for _, old := range rights {
		for _, r := range rights {
			for _, before := range [][]api.Access{nil, {api.Load}, {api.Store}, {api.Store, api.Load}, {api.Fetch}} {
				b := usual(t)
				va := uint64(sharedBase + 2*kib4)
				b.sets(2, old, api.OK)
				b.lays(2, filled(kib4, 3), api.OK)
				b.access(sharedBase+3*kib4, 1, api.Load, 0, 0)
				for _, a := range before {
					b.access(va+8, 4, a, 0x77, 0)
				}
				b.sets(2, r, api.OK)
				b.same()
				if b.s.Right(2) != r {
					t.Errorf("from %d to %d: %d", old, r, b.s.Right(2))
				}
				if is := b.three(va + 9); is != may[r] {
					t.Errorf("from %d to %d behind %v: %v", old, r, before, is)
				}
				leaf, ok := b.s.Find(va)
				if ok != (r != api.None) || ok && (perm.Text(leaf.Pte) != text[r] || leaf.Level != 0 || leaf.Pte.Rsw != 0) {
					t.Errorf("from %d to %d: %+v", old, r, leaf)
				}
				b.same()
				b.around()
			}
		}
	}
}

// around holds Find all over the pages of each kind, and just beside them.
func (b *both) around() {
	b.t.Helper()
	for _, va := range []uint64{0, 0x10000, 0x12000, 0x20000, 0x21000, 0x22000, 0x40000000, 0x40002000, 0x40004000, 0x40200000} {
		for _, at := range around(va) {
			b.finds(at)
		}
	}
}

// P14.3: rights that are none, and which error comes first; nothing changes.
func TestSetArg(t *testing.T) {
	for _, n := range []int{8, 9, 40} { // in the first ones no frame is left
		b := some(t, api.Shape{Code: 3, Private: 2, Shared: 5}, n, 4, 2)
		for _, r := range noRights {
			for page := range 5 {
				b.sets(page, r, api.ErrArg)
			}
			b.sets(-1, r, api.ErrNone)
			b.sets(5, r, api.ErrNone)
		}
		b.same()
		if n < 40 {
			continue
		}
		b.sets(1, api.Write, api.OK)
		b.access(sharedBase+kib4, 8, api.Store, 1, 0)
		for _, r := range noRights {
			b.sets(1, r, api.ErrArg)
		}
		b.same()
	}
}

// P14.3: the right that a page has takes no frame, and leaves the buffer as it is.
func TestSetSame(t *testing.T) {
	b := some(t, api.Shape{Code: 1, Shared: 5}, 4, 4, 2) // no frame is left
	for page := range 5 {
		b.sets(page, api.None, api.OK)
	}
	b.same()
	b.counts(4, 0)
	b = usual(t)
	for _, r := range rights {
		b.sets(3, r, api.OK)
		b.access(sharedBase+3*kib4, 8, api.Load, 0, 0)
		b.access(codeBase, 4, api.Fetch, 0, 0)
		slots, frames, shared := len(b.s.Slots()), b.l.used, len(b.l.shared)
		b.sets(3, r, api.OK)
		b.same()
		b.counts(frames, shared)
		if len(b.s.Slots()) != slots {
			t.Errorf("Set of the right %d: %d slots, not %d", r, len(b.s.Slots()), slots)
		}
	}
}

// P14.3: how many frames each Set and SetData takes, and which.
func TestSetFrames(t *testing.T) {
	b := some(t, api.Shape{Code: 1, Private: 1, Shared: 1100}, 40, 4, 2)
	b.counts(5, 0)
	for _, x := range []struct {
		page, frames, shared, frame int
		r                           api.Right
		at                          uint64 // where the page's entry stands; 0: nowhere
	}{
		{3, 5, 0, 0, api.None, 0},
		{3, 8, 1, 5, api.Read, 7*kib4 + 3*8}, // a frame, the table above, the one of the first 512
		{3, 8, 1, 5, api.Write, 7*kib4 + 3*8},
		{3, 8, 1, 5, api.None, 0},
		{3, 8, 1, 5, api.Write, 7*kib4 + 3*8},
		{511, 9, 2, 8, api.Write, 7*kib4 + 511*8},
		{0, 10, 3, 9, api.Read, 7 * kib4},
		{512, 12, 4, 10, api.Write, 11 * kib4},
		{1023, 13, 5, 12, api.Read, 11*kib4 + 511*8},
		{1099, 15, 6, 13, api.Read, 14*kib4 + 75*8},
		{512, 15, 6, 10, api.Read, 11 * kib4},
		{512, 15, 6, 10, api.None, 0},
		{513, 16, 7, 15, api.Read, 11*kib4 + 8},
	} {
		b.sets(x.page, x.r, api.OK)
		b.counts(x.frames, x.shared)
		leaf, ok := b.s.Find(sharedBase + kib4*uint64(x.page))
		if ok != (x.at != 0) || ok && (leaf.At != x.at || leaf.Pte.Ppn != uint64(x.frame)) {
			t.Errorf("Set(%d, %d): %+v", x.page, x.r, leaf)
		}
		b.same()
	}
	b.lays(700, nil, api.OK)
	b.counts(17, 8)
	b.sets(700, api.Read, api.OK)
	b.counts(17, 8)
	b.lays(700, filled(1, 1), api.OK)
	b.counts(17, 8)
	if leaf, _ := b.s.Find(sharedBase + kib4*700); leaf.Pte.Ppn != 16 {
		t.Errorf("the page 700 is in %d", leaf.Pte.Ppn)
	}
	b.same()
}

// P14.3: no frame is left, at each of the steps; what was taken stays, and is used on.
func TestSetFull(t *testing.T) {
	sh := api.Shape{Code: 1, Private: 1, Shared: 1100}
	b := some(t, sh, 5, 4, 2) // not even the page's
	for range 2 {
		b.sets(3, api.Read, api.ErrFull)
		b.lays(3, filled(9, 1), api.ErrFull)
		b.same()
		b.counts(5, 0)
	}
	b = some(t, sh, 6, 4, 2) // not the table above
	for range 2 {
		b.sets(3, api.Read, api.ErrFull)
		b.same()
		b.counts(6, 1)
	}
	b.sets(4, api.Read, api.ErrFull)
	b.lays(3, filled(9, 1), api.OK)
	b.sets(3, api.None, api.OK)
	b.same()
	b = some(t, sh, 7, 4, 2) // not the one below
	for range 2 {
		b.sets(3, api.Write, api.ErrFull)
		b.same()
		b.counts(7, 1)
	}
	b.lays(3, filled(9, 1), api.OK)
	b.lays(4, nil, api.ErrFull)
	b.same()
	// The table above was laid by a Set that came to an error, and the page below keeps its frame.
	b = some(t, sh, 11, 4, 2)
	b.sets(600, api.Write, api.OK)
	b.counts(8, 1)
	b.lays(1, filled(9, 1), api.OK)
	b.lays(2, filled(9, 2), api.OK)
	b.sets(3, api.Write, api.ErrFull)
	b.counts(11, 4)
	b.sets(1, api.Write, api.ErrFull)
	b.sets(601, api.Read, api.ErrFull)
	b.sets(600, api.Read, api.OK)
	b.lays(3, filled(9, 3), api.OK)
	b.same()
	b.counts(11, 4)
}

// P14.3: an ErrFull leaves rights and the buffer as they were.
func TestSetFullKeeps(t *testing.T) {
	b := some(t, api.Shape{Code: 1, Shared: 600}, 9, 4, 2)
	b.sets(0, api.Write, api.OK)
	b.access(sharedBase+16, 8, api.Store, 12, 0)
	b.lays(512, filled(kib4, 2), api.OK)
	b.lays(513, filled(kib4, 3), api.OK)
	b.counts(9, 3)
	for _, r := range rights[1:] {
		b.sets(512, r, api.ErrFull)
		b.sets(1, r, api.ErrFull)
		b.same()
		if b.s.Right(512) != api.None || b.s.Right(1) != api.None || b.s.Right(0) != api.Write {
			t.Errorf("%d, %d, %d", b.s.Right(512), b.s.Right(1), b.s.Right(0))
		}
	}
	b.access(sharedBase+16, 8, api.Load, 0, 0)
	b.access(sharedBase+512*kib4, 8, api.Load, 0, 0)
	b.same()
	b = some(t, api.Shape{Code: 1, Shared: 600}, 8, 4, 2)
	for page := range 3 {
		b.lays(page, filled(kib4, page), api.OK)
	}
	b.sets(2, api.Read, api.ErrFull) // the table above is laid
	b.counts(8, 3)
	b.sets(0, api.Read, api.ErrFull)
	b.same()
	b.counts(8, 3)
}

// P14.3: a page's bytes stay through rights that come and go.
func TestBytesStay(t *testing.T) {
	b := usual(t)
	for round := range 4 {
		for i, r := range []api.Right{api.Write, api.None, api.Read, api.Write, api.Read, api.None, api.Write} {
			b.sets(2, r, api.OK)
			b.sets(3, rights[(i+round)%3], api.OK)
			b.same()
			if r == api.Write {
				b.access(sharedBase+2*kib4+uint64(8*(i+8*round)), 8, api.Store, uint64(1000+i), 0)
			}
			b.access(sharedBase+2*kib4+uint64(8*round), 8, api.Load, 0, 0)
			b.same()
		}
	}
	want := []byte{0xe8, 3}
	if is := b.s.Data(2); !bytes.Equal(is[:2], want) {
		t.Errorf("%x", is[:2])
	}
}

// P14.3, P14.4: the chapter's example, with the buffer at all sizes; other pages' entries stay there.
func TestFence(t *testing.T) {
	for sets := 1; sets <= 64; sets *= 4 {
		for ways := 1; ways <= 8; ways++ {
			b := some(t, api.Shape{Code: 1, Private: 1, Shared: 5}, 20, sets, ways)
			for page := range 5 {
				b.sets(page, api.Write, api.OK)
				b.access(sharedBase+kib4*uint64(page)+8, 8, api.Store, 7, page)
			}
			b.access(codeBase, 4, api.Fetch, 0, 0)
			b.access(ownBase, 8, api.Load, 0, 0)
			for page := range 5 {
				b.access(sharedBase+kib4*uint64(page)+8, 8, api.Store, 7, page)
				b.sets(page, api.Read, api.OK)
				b.slots()
				if c := b.access(sharedBase+kib4*uint64(page)+8, 8, api.Store, 8, page); c != api.StorePage {
					t.Errorf("%d, %d: %v", sets, ways, c)
				}
				b.sets(page, api.None, api.OK)
				if c := b.access(sharedBase+kib4*uint64(page)+8, 8, api.Load, 0, page); c != api.LoadPage {
					t.Errorf("%d, %d: %v", sets, ways, c)
				}
				b.same()
			}
		}
	}
}

// P14.4: entries of other asids over the same tables go as well.
func TestFenceAsids(t *testing.T) {
	b := usual(t)
	u := b.s.Unit()
	b.sets(1, api.Write, api.OK)
	for asid := range 3 {
		if !u.SetSatp(pte.PutSatp(api.Satp{On: true, Asid: asid, Ppn: 0})) {
			t.Fatal("SetSatp")
		}
		if c := u.Store(sharedBase+kib4, 8, 5, 0); c != api.NoCause {
			t.Errorf("asid %d: %v", asid, c)
		}
	}
	b.sets(1, api.Read, api.OK)
	if l := b.s.Slots(); len(l) != 0 {
		t.Errorf("Slots: %+v", l)
	}
	for asid := range 3 {
		u.SetSatp(pte.PutSatp(api.Satp{On: true, Asid: asid, Ppn: 0}))
		if c := u.Store(sharedBase+kib4, 8, 5, 0); c != api.StorePage {
			t.Errorf("asid %d: %v", asid, c)
		}
	}
}

// P14.3: bytes of all lengths, of pages of each right; noughts stand behind them.
func TestSetData(t *testing.T) {
	for _, r := range rights {
		b := usual(t)
		b.sets(2, r, api.OK)
		for i, n := range []int{4096, 0, 4095, 1, 4096, 8, 4094, 0} {
			b.lays(2, filled(n, i), api.OK)
			b.same()
			b.access(sharedBase+2*kib4, 8, api.Load, 0, 0)
			b.access(sharedBase+3*kib4-8, 8, api.Load, 0, 0)
			if is := b.s.Data(2); !bytes.Equal(is, append(filled(n, i), make([]byte, kib4-n)...)) {
				t.Errorf("%d bytes: %x", n, is)
			}
			for _, wrong := range []int{4097, 4098, 5000, 8192, 1 << 17} {
				b.lays(2, filled(wrong, i), api.ErrArg)
			}
			b.same()
		}
		for _, later := range rights {
			b.sets(2, later, api.OK)
			b.access(sharedBase+2*kib4+8, 8, api.Load, 0, 0)
			b.same()
		}
	}
}

// P14.3: of a page that isn't mapped, these are its bytes when it is; too many take no frame.
func TestSetDataFirst(t *testing.T) {
	b := usual(t)
	b.lays(4, filled(4097, 1), api.ErrArg)
	b.counts(8, 0)
	b.lays(4, filled(30, 1), api.OK)
	b.counts(9, 1)
	b.access(sharedBase+4*kib4, 8, api.Load, 0, 0)
	b.same()
	b.sets(4, api.Read, api.OK)
	for at := uint64(0); at < 40; at += 8 {
		if c := b.access(sharedBase+4*kib4+at, 8, api.Load, 0, 0); c != api.NoCause {
			t.Errorf("Load: %v", c)
		}
	}
	b.same()
	// Which error comes first, where no frame is left.
	b = some(t, api.Shape{Code: 1, Shared: 2}, 4, 1, 1)
	b.lays(2, filled(4097, 1), api.ErrNone)
	b.lays(-1, nil, api.ErrNone)
	b.lays(1, filled(4097, 1), api.ErrArg)
	b.lays(1, nil, api.ErrFull)
	b.lays(0, filled(4096, 1), api.ErrFull)
	b.same()
}

// P14.3: what was handed in is neither changed nor kept.
func TestSetDataKept(t *testing.T) {
	b := usual(t)
	room := filled(2*kib4, 4)
	held := slices.Clone(room)
	b.lays(1, room[:kib4], api.OK)
	b.lays(2, room[:100], api.OK)
	b.sets(1, api.Write, api.OK)
	b.sets(2, api.Write, api.OK)
	b.access(sharedBase+kib4, 8, api.Store, 0, 0)
	b.access(sharedBase+2*kib4, 8, api.Store, 0, 0)
	if !bytes.Equal(room, held) {
		t.Errorf("what was handed in has changed")
	}
	for i := range room {
		room[i] = 0xaa
	}
	b.same()
}

// P14.4: what Slots and Pages answered isn't changed by what is done later, nor the other way round.
func TestAnswersKept(t *testing.T) {
	b := usual(t)
	b.sets(1, api.Write, api.OK)
	b.access(sharedBase+kib4, 8, api.Store, 3, 0)
	b.access(ownBase, 8, api.Store, 3, 0)
	slots, pages := b.s.Slots(), b.s.Pages()
	heldSlots, heldPages := slices.Clone(slots), slices.Clone(pages)
	b.sets(1, api.Read, api.OK)
	b.sets(2, api.Read, api.OK)
	b.access(codeBase, 4, api.Fetch, 0, 0)
	if !slices.Equal(slots, heldSlots) || !slices.Equal(pages, heldPages) {
		t.Errorf("what was told has changed: %+v, %+v", slots, pages)
	}
	slots, pages = b.s.Slots(), b.s.Pages()
	slots, pages = slots[:cap(slots)], pages[:cap(pages)]
	for i := range slots {
		slots[i] = api.Slot{Page: 1}
	}
	for i := range pages {
		pages[i] = api.Mapped{Va: 1}
	}
	b.same()
	b.around()
}

// P14.4: Find all over pages of each kind, just beside them, and of addresses that aren't canonical.
func TestFind(t *testing.T) {
	b := some(t, api.Shape{Code: 3, Private: 2, Shared: 600}, 40, 4, 2)
	for _, page := range []int{0, 2, 511, 512, 599} {
		b.sets(page, rights[1+page%2], api.OK)
	}
	for _, va := range []uint64{
		0, codeBase, codeBase + kib4, codeBase + 3*kib4, 0x1f000, ownBase, ownBase + kib4, ownBase + 2*kib4, 0x2f000, 0x30000,
		sharedBase, sharedBase + kib4, sharedBase + 2*kib4, sharedBase + 511*kib4, sharedBase + 512*kib4, sharedBase + 599*kib4, sharedBase + 600*kib4,
		0x4ffff000, 0x80000000, 0x3ffffff000, 0xffffffc000000000, 0xffffffc040000000, all - 4095,
	} {
		for _, at := range around(va) {
			b.finds(at)
		}
	}
	for _, va := range notCanonical() {
		b.finds(va)
		if leaf, ok := b.s.Find(va); leaf != (api.Leaf{}) || ok {
			t.Errorf("Find(%x): %+v, %v", va, leaf, ok)
		}
	}
	if leaf, ok := b.s.Find(codeBase + 2*kib4 + 7); !ok || leaf != (api.Leaf{Pte: api.Pte{V: true, R: true, X: true, U: true, A: true, Ppn: 5}, At: 2*kib4 + 0x12*8}) {
		t.Errorf("%+v, %v", leaf, ok)
	}
	if l := b.s.Slots(); len(l) != 0 {
		t.Errorf("Find has filled the buffer: %+v", l)
	}
}

// chance makes numbers that are alike in each run.
type chance uint64

func (c *chance) next(n int) int {
	*c = *c*6364136223846793005 + 1442695040888963407
	return int(uint64(*c>>33) % uint64(n))
}

// page of a space, most of them those that meet; some that aren't there.
func (c *chance) page(n int) int {
	switch c.next(12) {
	case 0:
		return c.next(n+4) - 2
	case 1:
		return max(n-1-c.next(2), 0)
	}
	return min(c.next(5), n-1)
}

// address: most in pages that are there.
func (c *chance) address(n int) uint64 {
	va := sharedBase + kib4*uint64(c.page(n))
	switch c.next(6) {
	case 0:
		va = codeBase + kib4*uint64(c.next(5))
	case 1:
		va = ownBase + kib4*uint64(c.next(4))
	}
	va += uint64(c.next(kib4)) &^ 7
	if c.next(5) == 0 {
		va += uint64(c.next(8))
	}
	if c.next(40) == 0 {
		va |= 1 << (38 + c.next(26))
	}
	return va
}

// step does one thing with a space, right or wrong.
func (b *both) step(c *chance) {
	b.t.Helper()
	n := b.l.shape.Shared
	page := c.page(n)
	switch c.next(8) {
	case 0, 1:
		r := rights[c.next(3)]
		if c.next(20) == 0 {
			r = noRights[c.next(len(noRights))]
		}
		should := b.l.set(page, r)
		if e := b.s.Set(page, r); e != should {
			b.t.Fatalf("Set(%d, %d): %v, not %v", page, r, e, should)
		}
	case 2:
		data := filled([]int{0, 1, 40, 4096, 4097}[c.next(5)], c.next(1000))
		should := b.l.setData(page, data)
		if e := b.s.SetData(page, data); e != should {
			b.t.Fatalf("SetData(%d, %d bytes): %v, not %v", page, len(data), e, should)
		}
	case 3:
		at, code := c.next(3*kib4+20)-5, filled(c.next(9000), c.next(1000))
		should := b.l.lay(at, code)
		if e := b.s.Code(at, code); e != should {
			b.t.Fatalf("Code(%d, %d bytes): %v, not %v", at, len(code), e, should)
		}
	case 4:
		b.finds(c.address(n))
	default:
		size := sizes[c.next(4)]
		a := accesses[c.next(3)]
		if a == api.Fetch {
			size = 4
		}
		b.access(c.address(n), size, a, uint64(c.next(1<<30))<<20+7, c.next(20)-10)
	}
}

// P14: long mixed runs, in memories that have room and that become full, with buffers that
// are small and great, held against a model.
func TestMany(t *testing.T) {
	for i, x := range []struct {
		sh            api.Shape
		n, sets, ways int
	}{
		{api.Shape{Code: 3, Private: 2, Shared: 5}, 40, 4, 2}, {api.Shape{Code: 2, Private: 1, Shared: 600}, 40, 1, 1},
		{api.Shape{Code: 1, Private: 3, Shared: 1100}, 14, 2, 8}, {api.Shape{Code: 2, Private: 0, Shared: 514}, 9, 64, 8},
		{api.Shape{Code: 3, Private: 2, Shared: 2}, 12, 1, 4}, {api.Shape{Code: 1, Private: 1, Shared: 9}, 7, 8, 1}, {api.Shape{Code: 1, Private: 1, Shared: 9}, 5, 2, 2},
	} {
		b := some(t, x.sh, x.n, x.sets, x.ways)
		c := chance(i)
		for j := range 6000 {
			b.step(&c)
			b.slots()
			if j%40 == 0 {
				b.same()
			}
			if used, shared := b.s.Used(); used > x.n || shared > x.sh.Shared {
				t.Fatalf("Used: %d, %d", used, shared)
			}
		}
		b.same()
	}
}

// P14: a nil space has nothing, whatever it is asked.
func TestNil(t *testing.T) {
	var s *space.Space
	for range 2 {
		if s.Unit() != nil || s.Frames() != 0 || len(s.Slots()) != 0 || len(s.Pages()) != 0 {
			t.Errorf("%v, %d, %v, %v", s.Unit(), s.Frames(), s.Slots(), s.Pages())
		}
		if x, y := s.Used(); x != 0 || y != 0 {
			t.Errorf("Used: %d, %d", x, y)
		}
		for _, at := range append(noPages(0), 0, 1, 4096) {
			for _, n := range []int{0, 1, 4096, 4097} {
				if e := s.Code(at, filled(n, 1)); e != api.ErrNil {
					t.Errorf("Code(%d): %v", at, e)
				}
				if e := s.SetData(at, filled(n, 1)); e != api.ErrNil {
					t.Errorf("SetData(%d): %v", at, e)
				}
			}
			for _, r := range append(rights, noRights...) {
				if e := s.Set(at, r); e != api.ErrNil {
					t.Errorf("Set(%d, %d): %v", at, r, e)
				}
			}
			if s.Right(at) != api.None || len(s.Data(at)) != 0 || len(s.Own(at)) != 0 {
				t.Errorf("%d: %d, %d, %d", at, s.Right(at), len(s.Data(at)), len(s.Own(at)))
			}
		}
		for _, va := range append(notCanonical(), 0, codeBase, ownBase, sharedBase, all) {
			if p, ok := s.Which(va); p != 0 || ok {
				t.Errorf("Which(%x): %d, %v", va, p, ok)
			}
			if l, ok := s.Find(va); l != (api.Leaf{}) || ok {
				t.Errorf("Find(%x): %+v, %v", va, l, ok)
			}
		}
		var u *mmu.Unit = s.Unit()
		if c := u.Store(ownBase, 8, 1, 0); c != api.Illegal {
			t.Errorf("Store: %v", c)
		}
	}
}
