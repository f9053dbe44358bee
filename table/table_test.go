package table_test

import (
	"bytes"
	"math"
	"slices"
	"testing"

	"runrig/api"
	"runrig/frames"
	"runrig/phys"
	"runrig/table"
	"runrig/walk"
)

const (
	all     = math.MaxUint64
	mostPpn = 1<<44 - 1
	kib4    = 1 << 12
	mib2    = 1 << 21
	gib1    = 1 << 30
)

// An entry's flags, as numbers.
const (
	fV, fR, fW, fX = 1, 2, 4, 8
	fU, fG, fA, fD = 16, 32, 64, 128
	fAll           = 255
)

// addresses that are canonical: at the ends of both halves, such whose three numbers
// are unlike, and such as the program uses.
var addresses = []uint64{
	0, 0x7, 0xfff, 0x1000, 0x1ff8, 0x200000, 0x3fffffff, api.CodeBase, api.PrivateBase + 0x123,
	api.SharedBase, api.SharedBase + 0x2008, 0x3f81345678, 0x1ffffff000, 1<<38 - 1,
	0xffffffc000000000, 0xffffffc000403abc, 0xffffffd2468acfff, all - 4095, all,
}

// notCanonical: the words just beyond both halves, and ordinary ones with a bit above that is unlike.
func notCanonical() []uint64 {
	l := []uint64{1 << 38, 1<<38 + 1, 1<<39 - 1, 1 << 39, 1 << 40, 1<<63 - 1, 1 << 63, 0xffffff8000000000, 0xffffffbfffffffff}
	for _, va := range addresses {
		for i := 38; i < 64; i++ {
			l = append(l, va^1<<i)
		}
	}
	return l
}

// noLevels are levels that aren't: those just outside, near the ends of int, and those
// that are one in 8, 16, 32 or 63 bits.
var noLevels = []int{
	-1, -2, -3, -9, 3, 4, 5, 6, 8, 63, 64, 255, 256, 257, 258, 65536, 65537, 65538, -256, -255, -254,
	math.MaxInt32, math.MinInt32, 1 << 32, 1<<32 + 1, 1<<32 + 2, -1 << 32, 1 - 1<<32, 2 - 1<<32,
	1 << 62, 1<<62 + 1, -1 << 62, math.MaxInt, math.MaxInt - 1, math.MinInt, math.MinInt + 1, math.MinInt + 2,
}

// noRsws and noPpns are numbers that an entry's word has no room for.
var (
	noRsws = []int{-1, -2, -4, 4, 5, 7, 8, 256, 257, 65536, 1 << 32, 1<<32 + 1, -1 << 32, math.MaxInt, math.MinInt, math.MinInt + 3}
	noPpns = []uint64{mostPpn + 1, mostPpn + 1 + 1<<18, 1 << 45, 1 << 52, 1<<52 + 1<<18, 1 << 54, 1 << 62, 1 << 63, all - 1<<18 + 1, all}
)

// entry of flags, Rsw and Ppn.
func entry(flags, rsw int, ppn uint64) api.Pte {
	bit := func(f int) bool { return flags/f%2 == 1 }
	return api.Pte{
		V: bit(fV), R: bit(fR), W: bit(fW), X: bit(fX), U: bit(fU), G: bit(fG), A: bit(fA), D: bit(fD),
		Rsw: rsw, Ppn: ppn,
	}
}

// word of an entry that one may hold, flag by flag.
func word(p api.Pte) uint64 {
	w := 256*uint64(p.Rsw) + 1024*p.Ppn
	for i, is := range []bool{p.V, p.R, p.W, p.X, p.U, p.G, p.A, p.D} {
		if is {
			w += 1 << i
		}
	}
	return w
}

// pages is how many of the lowest level's a level's page has.
func pages(level int) uint64 {
	return [4]uint64{1, 512, 512 * 512, 512 * 512 * 512}[level]
}

// number of an address at a level, by dividing.
func number(va uint64, level int) uint64 {
	return va / kib4 / pages(level) % 512
}

// first address of the page of a level that an address is in.
func first(va uint64, level int) uint64 {
	size := kib4 * pages(level)
	return va / size * size
}

func canonical(va uint64) bool {
	high := va / (1 << 38)
	return high == 0 || high == 1<<26-1
}

// may an entry be laid for a page of a level?
func may(p api.Pte, level int) bool {
	if level < 0 || level > 2 || p.Rsw < 0 || p.Rsw > 3 || p.Ppn > mostPpn {
		return false
	}
	return p.V && (p.R || p.X && !p.W) && p.Ppn%pages(level) == 0
}

// spot is a page of a level, by how many such pages stand ahead of it. (Of the level 3: all addresses.)
type spot struct {
	level  int
	number uint64
}

func at(va uint64, level int) spot {
	return spot{level, va % (1 << 39) / kib4 / pages(level)}
}

// world is a memory and a stock, and what they should be: the bytes of each frame, and a
// stock that is taken from alike.
type world struct {
	t     *testing.T
	m     *phys.Memory
	s     *frames.Stock
	like  *frames.Stock
	bytes [][]byte
}

// newWorld has so many frames in its memory, none of them noughts, and a stock of n from one on.
func newWorld(t *testing.T, size, from, n int) *world {
	t.Helper()
	m, e := phys.New(size)
	s, f := frames.New(from, n)
	like, g := frames.New(from, n)
	if e != api.OK || f != api.OK || g != api.OK {
		t.Fatalf("New: %v, %v, %v", e, f, g)
	}
	w := &world{t, m, s, like, nil}
	for i := range size {
		w.bytes = append(w.bytes, bytes.Repeat([]byte{0xc1 + byte(i), 0xff, byte(i), 0x5a, 0x93}, kib4/5+1)[:kib4])
		if e := m.SetPage(i, w.bytes[i]); e != api.OK {
			t.Fatalf("SetPage(%d): %v", i, e)
		}
	}
	return w
}

// same holds all of the memory and the stock against what they should be.
func (w *world) same() {
	w.t.Helper()
	for i, should := range w.bytes {
		if is, e := w.m.Page(i); e != api.OK || !bytes.Equal(is, should) {
			w.t.Fatalf("frame %d has\n%x, not\n%x", i, is, should)
		}
	}
	if w.s.Free() != w.like.Free() || w.s.Used() != w.like.Used() {
		w.t.Fatalf("%d free, %d used, not %d, %d", w.s.Free(), w.s.Used(), w.like.Free(), w.like.Used())
	}
	for f := range len(w.bytes) + 8 {
		if w.s.Taken(f) != w.like.Taken(f) {
			w.t.Fatalf("Taken(%d): %v", f, w.s.Taken(f))
		}
	}
}

// rest takes all that is free in the stock: its frames come as they should.
func (w *world) rest() {
	w.t.Helper()
	for {
		f, e := w.s.Take()
		if g, h := w.like.Take(); f != g || e != h {
			w.t.Fatalf("Take: %d, %v, not %d, %v", f, e, g, h)
		}
		if e != api.OK {
			return
		}
	}
}

// take a frame for a table, as New and Map should.
func (w *world) take() (int, api.Errno) {
	f, e := w.like.Take()
	if e != api.OK {
		return 0, e
	}
	if f >= len(w.bytes) {
		w.like.Give(f)
		return 0, api.ErrBound
	}
	w.bytes[f] = make([]byte, kib4)
	return f, api.OK
}

// both is tables, and what they should be: the frames of tables by the spots that they are
// for, and the pages that are mapped by theirs.
type both struct {
	*world
	x      *table.Tables
	tables map[spot]int
	pages  map[spot]api.Pte
}

// newBoth in a world: nil, if there should be none.
func (w *world) newBoth() (*both, api.Errno) {
	w.t.Helper()
	root, should := w.take()
	x, e := table.New(w.m, w.s)
	if e != should || (x == nil) != (e != api.OK) {
		w.t.Fatalf("New: %v, %v, not %v", x, e, should)
	}
	w.same()
	if e != api.OK {
		return nil, e
	}
	b := &both{w, x, map[spot]int{{3, 0}: root}, map[spot]api.Pte{}}
	b.same()
	return b, e
}

// some tables, in a memory of so many frames that are all in the stock.
func some(t *testing.T, size int) *both {
	t.Helper()
	b, e := newWorld(t, size, 0, size).newBoth()
	if e != api.OK {
		t.Fatalf("New: %v", e)
	}
	return b
}

// place of an address's entry of a level, whose table stands.
func (b *both) place(va uint64, level int) uint64 {
	return uint64(b.tables[at(va, level+1)])*kib4 + 8*number(va, level)
}

// put a word at an address's place of a level, in what should stand there.
func (b *both) put(va uint64, level int, w uint64) {
	place := b.place(va, level)
	for i := range uint64(8) {
		b.bytes[place/kib4][place%kib4+i] = byte(w)
		w /= 256
	}
}

// level of the page that holds an address; -1: none.
func (b *both) level(va uint64) int {
	for level := range 3 {
		if _, is := b.pages[at(va, level)]; is && canonical(va) {
			return level
		}
	}
	return -1
}

// find is what Find should be.
func (b *both) find(va uint64) (api.Leaf, api.Errno) {
	level := b.level(va)
	if level < 0 {
		return api.Leaf{}, api.ErrNone
	}
	return api.Leaf{Pte: b.pages[at(va, level)], Level: level, At: b.place(va, level)}, api.OK
}

// list is what Pages should be.
func (b *both) list() []api.Mapped {
	var l []api.Mapped
	for s, p := range b.pages {
		va := s.number * kib4 * pages(s.level)
		if va >= 1<<38 {
			va += all - (1<<39 - 1)
		}
		l = append(l, api.Mapped{Va: va, Level: s.level, Pte: p})
	}
	slices.SortFunc(l, func(x, y api.Mapped) int {
		if x.Va < y.Va {
			return -1
		}
		return 1
	})
	return l
}

// same holds the tables, their memory and their stock against what they should be.
func (b *both) same() {
	b.t.Helper()
	b.world.same()
	if b.x.Root() != b.tables[spot{3, 0}] || b.x.Used() != len(b.tables) {
		b.t.Fatalf("Root: %d, Used: %d, not %d, %d", b.x.Root(), b.x.Used(), b.tables[spot{3, 0}], len(b.tables))
	}
	if is, should := b.x.Pages(), b.list(); !slices.Equal(is, should) {
		b.t.Fatalf("Pages:\n%+v, not\n%+v", is, should)
	}
}

// finds holds Find against what it should be, and against layer 10's.
func (b *both) finds(va uint64) {
	b.t.Helper()
	l, e := b.x.Find(va)
	if m, f := b.find(va); l != m || e != f {
		b.t.Fatalf("Find(%x): %+v, %v, not %+v, %v", va, l, e, m, f)
	}
	for _, asid := range []int{0, 1, api.MostAsid} {
		if m, f := walk.Find(b.m, api.Satp{On: true, Asid: asid, Ppn: uint64(b.x.Root())}, va); l != m || e != f {
			b.t.Fatalf("Find(%x): %+v, %v, layer 10's %+v, %v", va, l, e, m, f)
		}
	}
}

// around holds Find all over the pages of each level that an address is in, and just beside them.
func (b *both) around(va uint64) {
	b.t.Helper()
	b.finds(va)
	for level := range 3 {
		size := kib4 * pages(level)
		for _, step := range []uint64{0, 1, 8, kib4 - 1, kib4, size / 2, size - kib4, size - 1, size, size + 7, all, 0 - size} {
			b.finds(first(va, level) + step)
		}
	}
}

// lay tables and an entry, as Map should.
func (b *both) lay(va uint64, level int, p api.Pte) api.Errno {
	if !canonical(va) || !may(p, level) {
		return api.ErrArg
	}
	if b.level(va) >= 0 {
		return api.ErrThere
	}
	if _, is := b.tables[at(va, level)]; is {
		return api.ErrThere
	}
	for l := 2; l > level; l-- {
		if _, is := b.tables[at(va, l)]; is {
			continue
		}
		f, e := b.take()
		if e != api.OK {
			return e
		}
		b.put(va, l, 1+1024*uint64(f))
		b.tables[at(va, l)] = f
	}
	b.pages[at(va, level)] = p
	b.put(va, level, word(p))
	return api.OK
}

// maps in both, and answers what came.
func (b *both) maps(va uint64, level int, p api.Pte) api.Errno {
	b.t.Helper()
	should := b.lay(va, level, p)
	e := b.x.Map(va, level, p)
	if e != should {
		b.t.Fatalf("Map(%x, %d, %+v): %v, not %v", va, level, p, e, should)
	}
	return e
}

// mapped: Map is to end so, and all is as it should be behind it.
func (b *both) mapped(va uint64, level int, p api.Pte, want api.Errno) {
	b.t.Helper()
	if e := b.maps(va, level, p); e != want {
		b.t.Fatalf("Map(%x, %d, %+v): %v, not %v", va, level, p, e, want)
	}
	b.same()
	b.finds(va)
}

// changes in both.
func (b *both) changes(va uint64, p api.Pte) api.Errno {
	b.t.Helper()
	level := b.level(va)
	should := api.ErrNone
	if level >= 0 {
		should = api.ErrArg
		if may(p, level) {
			should = api.OK
			b.pages[at(va, level)] = p
			b.put(va, level, word(p))
		}
	}
	e := b.x.Change(va, p)
	if e != should {
		b.t.Fatalf("Change(%x, %+v): %v, not %v", va, p, e, should)
	}
	return e
}

// changed: Change is to end so, and all is as it should be behind it.
func (b *both) changed(va uint64, p api.Pte, want api.Errno) {
	b.t.Helper()
	if e := b.changes(va, p); e != want {
		b.t.Fatalf("Change(%x, %+v): %v, not %v", va, p, e, want)
	}
	b.same()
	b.finds(va)
}

// unmaps in both.
func (b *both) unmaps(va uint64) (api.Pte, api.Errno) {
	b.t.Helper()
	level := b.level(va)
	old, should := api.Pte{}, api.ErrNone
	if level >= 0 {
		old, should = b.pages[at(va, level)], api.OK
		delete(b.pages, at(va, level))
		b.put(va, level, 0)
	}
	p, e := b.x.Unmap(va)
	if p != old || e != should {
		b.t.Fatalf("Unmap(%x): %+v, %v, not %+v, %v", va, p, e, old, should)
	}
	return p, e
}

// unmapped: Unmap is to end so, and all is as it should be behind it.
func (b *both) unmapped(va uint64, want api.Pte, err api.Errno) {
	b.t.Helper()
	if p, e := b.unmaps(va); p != want || e != err {
		b.t.Fatalf("Unmap(%x): %+v, %v, not %+v, %v", va, p, e, want, err)
	}
	b.same()
	b.finds(va)
}

// stands holds the word at a place in the memory.
func (b *both) stands(place, want uint64) {
	b.t.Helper()
	if w, e := b.m.Load(place, 8); w != want || e != api.OK {
		b.t.Fatalf("%x stands at %x, %v, not %x", w, place, e, want)
	}
}

// wrong entries for each level: of too great a Rsw or Ppn, that aren't right, no leaves; and
// those whose Ppn isn't at a multiple of that level's.
func wrong(level int) []api.Pte {
	var l []api.Pte
	ppn := 3 * pages(level)
	for flags := range 256 {
		if p := entry(flags, flags%4, ppn); !may(p, level) {
			l = append(l, p)
		}
	}
	for _, rsw := range noRsws {
		l = append(l, entry(fAll, rsw, ppn), entry(fV+fX, rsw, 0))
	}
	for _, n := range noPpns {
		l = append(l, entry(fAll, 0, n), entry(fV+fR, 3, n))
	}
	for n := uint64(1); n < pages(level); n *= 2 {
		l = append(l, entry(fAll, 0, n), entry(fV+fR, 1, ppn+n), entry(fV+fX, 0, ppn-n), entry(fAll, 2, mostPpn-n+1))
	}
	return l
}

// fine entries for each level: each setting of the flags that may be, the Rsws, and the
// Ppns at the ends.
func fine(level int) []api.Pte {
	var l []api.Pte
	ppn := 5 * pages(level)
	for flags := range 256 {
		if p := entry(flags, flags/16%4, ppn); may(p, level) {
			l = append(l, p)
		}
	}
	for _, n := range []uint64{0, 1, 2, 511, 512, 513, 1 << 13, 1<<26 - 1, mostPpn / pages(level)} {
		l = append(l, entry(fV+fR, 0, n*pages(level)%(mostPpn+1)))
	}
	return l
}

// leaf is an entry that may be laid at each level.
var leaf = entry(fAll-fG, 0, 1<<18)

// P13.2: the chapter's example.
func TestExample(t *testing.T) {
	b := some(t, 8)
	b.mapped(0x40000000, 0, leaf, api.OK)
	if b.x.Used() != 3 {
		t.Errorf("Used: %d", b.x.Used())
	}
	b.mapped(0x40001000, 0, leaf, api.OK)
	if b.x.Used() != 3 {
		t.Errorf("Used: %d", b.x.Used())
	}
}

// P13.1: tables of a nil memory, a nil stock, both; the other one stays as it was.
func TestNewNil(t *testing.T) {
	for _, n := range []int{0, 1, 3} { // ErrNil comes ahead of a stock's error, too
		w := newWorld(t, 2, 1, n)
		for range 2 {
			for i, x := range []struct {
				m *phys.Memory
				s *frames.Stock
			}{{nil, w.s}, {w.m, nil}, {nil, nil}} {
				if x, e := table.New(x.m, x.s); x != nil || e != api.ErrNil {
					t.Errorf("New %d: %v, %v", i, x, e)
				}
				w.same()
			}
		}
		w.rest()
	}
}

// P13.1: a stock that has no frame, or none any more, or one that was given back.
func TestNewFull(t *testing.T) {
	w := newWorld(t, 2, 0, 0)
	for range 3 {
		if _, e := w.newBoth(); e != api.ErrFull {
			t.Errorf("New: %v", e)
		}
	}
	w = newWorld(t, 9, 5, 2)
	w.rest()
	if _, e := w.newBoth(); e != api.ErrFull {
		t.Errorf("New: %v", e)
	}
	w.s.Give(6)
	w.like.Give(6)
	b, e := w.newBoth()
	if e != api.OK || b.x.Root() != 6 {
		t.Fatalf("New: %v", e)
	}
	if _, e := w.newBoth(); e != api.ErrFull {
		t.Errorf("New: %v", e)
	}
}

// P13.1: a frame that isn't in the memory is given back: the next one comes as if nobody had tried.
func TestNewBound(t *testing.T) {
	for _, x := range []struct{ size, from, n int }{{1, 1, 1}, {1, 1, 3}, {4, 4, 4}, {4, 5, 2}, {3, 1 << 19, 5}, {1, api.MostFrames - 1, 1}} {
		w := newWorld(t, x.size, x.from, x.n)
		for range 3 {
			if _, e := w.newBoth(); e != api.ErrBound {
				t.Errorf("%v: New: %v", x, e)
			}
		}
		if w.s.Taken(x.from) {
			t.Errorf("%v: %d is taken", x, x.from)
		}
		w.rest()
	}
	// Of a stock that is half within, what was given back last comes first: 6, 2, 4, 5.
	w := newWorld(t, 5, 2, 6)
	for range 5 {
		w.s.Take()
		w.like.Take()
	}
	for _, f := range []int{5, 4, 2, 6} {
		w.s.Give(f)
		w.like.Give(f)
	}
	for range 2 {
		if _, e := w.newBoth(); e != api.ErrBound {
			t.Errorf("New: %v", e)
		}
	}
	if f, e := w.s.Take(); f != 6 || e != api.OK {
		t.Fatalf("Take: %d, %v", f, e)
	}
	w.like.Take()
	if b, e := w.newBoth(); e != api.OK || b.x.Root() != 2 {
		t.Fatalf("New: %v", e)
	}
	w.rest()
}

// P13.1: a root is the stock's next frame, noughts though something stood there; no page is mapped.
func TestNew(t *testing.T) {
	for _, x := range []struct{ size, from, n int }{{1, 0, 1}, {2, 1, 1}, {2, 1, 9}, {20, 4, 6}, {9, 0, 9}, {9, 8, 1}} {
		w := newWorld(t, x.size, x.from, x.n)
		b, e := w.newBoth()
		if e != api.OK {
			t.Fatalf("%v: New: %v", x, e)
		}
		if b.x.Root() != x.from || b.x.Used() != 1 || len(b.x.Pages()) != 0 || w.s.Free() != x.n-1 {
			t.Errorf("%v: %d, %d, %v, %d", x, b.x.Root(), b.x.Used(), b.x.Pages(), w.s.Free())
		}
		if is, _ := w.m.Page(x.from); !bytes.Equal(is, make([]byte, kib4)) {
			t.Errorf("%v: the root has\n%x", x, is)
		}
		for _, va := range append(notCanonical(), addresses...) {
			b.finds(va)
			if l, e := b.x.Find(va); l != (api.Leaf{}) || e != api.ErrNone {
				t.Errorf("Find(%x): %+v, %v", va, l, e)
			}
		}
	}
}

// P13.1: in the greatest memory tables cost no more than their frames.
func TestGreatest(t *testing.T) {
	m, _ := phys.New(api.MostFrames)
	s, _ := frames.New(0, api.MostFrames)
	x, e := table.New(m, s)
	if e != api.OK {
		t.Fatalf("New: %v", e)
	}
	for i := range uint64(513) {
		if e := x.Map(api.SharedBase+i*kib4, 0, entry(fV+fR, 0, i)); e != api.OK {
			t.Fatalf("Map: %v", e)
		}
	}
	if x.Used() != 4 || s.Used() != 4 || len(x.Pages()) != 513 {
		t.Errorf("%d, %d, %d", x.Used(), s.Used(), len(x.Pages()))
	}
	if l, e := x.Find(api.SharedBase + 512*kib4 + 5); e != api.OK || l.At != 3*kib4 || l.Pte.Ppn != 512 {
		t.Errorf("Find: %+v, %v", l, e)
	}
}

// P13.1: Find all over the page of an entry of each level, and just beside it.
func TestFind(t *testing.T) {
	for _, va := range addresses {
		for level := range 3 {
			b := some(t, 6)
			b.mapped(va, level, leaf, api.OK)
			b.around(va)
			want := api.Leaf{Pte: leaf, Level: level, At: uint64(2-level)*kib4 + 8*number(va, level)}
			size := kib4 * pages(level)
			begin := first(va, level)
			for _, step := range []uint64{0, 1, 0xabc, size / 2, size - 1} {
				if l, e := b.x.Find(begin + step); l != want || e != api.OK {
					t.Errorf("Find(%x) of the level %d: %+v, %v, not %+v", begin+step, level, l, e, want)
				}
			}
			for _, other := range []uint64{begin - 1, begin + size} {
				if l, e := b.x.Find(other); l != (api.Leaf{}) || e != api.ErrNone {
					t.Errorf("Find(%x) beside the level %d: %+v, %v", other, level, l, e)
				}
			}
			for _, other := range notCanonical() {
				if l, e := b.x.Find(other); l != (api.Leaf{}) || e != api.ErrNone {
					t.Errorf("Find(%x): %+v, %v", other, l, e)
				}
			}
		}
	}
}

// P13.1: what stands in the memory is found, as layer 10 finds it: its errors too.
func TestFindMemory(t *testing.T) {
	b := some(t, 6)
	b.mapped(0x40201000, 0, leaf, api.OK)
	for _, x := range []struct {
		place, w uint64
		e        api.Errno
	}{
		{2*kib4 + 8, word(entry(fV+fX, 2, 77)), api.OK}, {2*kib4 + 8, fV + fW, api.ErrNone}, {2*kib4 + 8, 1<<63 + fAll, api.ErrNone},
		{kib4 + 8, word(entry(fV+fR, 0, 512)), api.OK}, {kib4 + 8, word(entry(fV+fR, 0, 513)), api.ErrNone},
		{kib4 + 8, fV + 6*1024, api.ErrBound}, {8, fV + mostPpn*1024, api.ErrBound}, {8, 0, api.ErrNone},
		{8, word(entry(fV+fR, 0, 1<<18)), api.OK},
	} {
		if e := b.m.Store(x.place, 8, x.w); e != api.OK {
			t.Fatal(e)
		}
		l, e := b.x.Find(0x40201abc)
		if m, f := walk.Find(b.m, api.Satp{On: true}, 0x40201abc); l != m || e != f || e != x.e {
			t.Errorf("%x at %x: %+v, %v, not %+v, %v", x.w, x.place, l, e, m, x.e)
		}
		p, f := b.x.Change(0x40201abc, leaf), api.OK
		if x.e != api.OK {
			f = x.e
		}
		if p != f {
			t.Errorf("%x at %x: Change: %v", x.w, x.place, p)
		}
		if n := len(b.x.Pages()); x.e == api.OK && n != 1 || x.e != api.OK && n != 0 {
			t.Errorf("%x at %x: %d pages", x.w, x.place, n)
		}
		if q, e := b.x.Unmap(0x40201abc); e != x.e || x.e == api.OK && q != leaf || x.e != api.OK && q != (api.Pte{}) {
			t.Errorf("%x at %x: Unmap: %+v, %v", x.w, x.place, q, e)
		}
	}
}

// P13: words in the memory that are neither a page nor a table don't hinder a page, and
// no call panics behind tables that lead out of the memory, or round.
func TestSpoiled(t *testing.T) {
	const va = 0x40201000 // number 1 at each level
	for _, w := range []uint64{fV + fW, fV + fA, 1 << 63, all, fW, fV + fR + 1024} {
		for level := range 3 {
			b := some(t, 8)
			b.mapped(va, 0, leaf, api.OK)
			b.m.Store(b.place(va, level), 8, w)
			is := level == 0 && w == fV+fR+1024 // at the level 0 that one is a page
			if e := b.x.Map(va, 0, leaf); (e == api.ErrThere) != is || (e == api.OK) == is {
				t.Errorf("%x at the level %d: %v", w, level, e)
			}
			if l, e := b.x.Find(va); e != api.OK || l.Level != 0 || !is && l.Pte != leaf {
				t.Errorf("%x at the level %d: %+v, %v", w, level, l, e)
			}
		}
	}
	// At the level 0 no entry leads on, not to itself either.
	for _, w := range []uint64{fV, fV + fG, fV + 1024*2, fV + 1024*mostPpn} {
		b := some(t, 8)
		b.mapped(va, 0, leaf, api.OK)
		b.m.Store(b.place(va, 0), 8, w)
		if l := b.x.Pages(); len(l) != 0 {
			t.Errorf("%x: %+v", w, l)
		}
		if e := b.x.Map(va, 0, leaf); e != api.OK {
			t.Errorf("%x: %v", w, e)
		}
		b.same()
	}
	for level := 1; level < 3; level++ {
		b := some(t, 8)
		b.mapped(va, 0, leaf, api.OK)
		place := b.place(va, level)
		for _, ppn := range []uint64{8, 9, mostPpn} {
			b.m.Store(place, 8, fV+1024*ppn)
			for low := range level {
				if e := b.x.Map(va, low, leaf); e != api.ErrBound || b.x.Used() != 3 {
					t.Errorf("%x at the level %d: %v, %d", ppn, level, e, b.x.Used())
				}
			}
			if e := b.x.Map(va, level, leaf); e != api.ErrThere || len(b.x.Pages()) != 0 {
				t.Errorf("%x at the level %d: %v", ppn, level, e)
			}
		}
		b.m.Store(place, 8, fV)
		b.x.Pages()
		b.x.Map(va, 0, leaf)
		b.x.Change(va, leaf)
		b.x.Unmap(va)
	}
}

// P13.2: what may not be is refused, and changes nothing, whatever is mapped.
func TestMapArg(t *testing.T) {
	for _, mapped := range []int{-1, 0, 1, 2} {
		b := some(t, 8)
		if mapped >= 0 {
			b.mapped(api.SharedBase, mapped, leaf, api.OK)
		}
		refuse := func(va uint64, level int, p api.Pte) {
			t.Helper()
			if e := b.maps(va, level, p); e != api.ErrArg {
				t.Fatalf("Map(%x, %d, %+v): %v", va, level, p, e)
			}
		}
		for _, va := range notCanonical() {
			for _, level := range []int{0, 1, 2, 3, -1} {
				refuse(va, level, leaf)
				refuse(va, level, entry(fV, 0, 1))
			}
		}
		b.same()
		for _, va := range []uint64{0, api.SharedBase, 0xffffffd2468acfff} {
			for _, level := range noLevels {
				refuse(va, level, leaf)
				refuse(va, level, entry(fV+fR, 0, 0))
				refuse(va, level, api.Pte{})
			}
			b.same()
			for level := range 3 {
				for _, p := range wrong(level) {
					refuse(va, level, p)
				}
			}
			b.same()
		}
		b.rest()
	}
}

// P13.2: each entry that may be is laid whole, at each level; and found.
func TestMapEntries(t *testing.T) {
	for level := range 3 {
		b := some(t, 4)
		for _, p := range fine(level) {
			b.mapped(0x3f81345678, level, p, api.OK)
			b.stands(b.place(0x3f81345678, level), word(p))
			if l, e := b.x.Find(0x3f81345000); l.Pte != p || l.Level != level || e != api.OK {
				t.Errorf("Find: %+v, %v, not %+v", l, e, p)
			}
			b.unmapped(0x3f81345678, p, api.OK)
		}
	}
}

// P13.2: what is mapped already: the same page, other addresses of it, pages within it and
// about it, tables that stand, though there are no pages in them; nothing changes.
func TestMapThere(t *testing.T) {
	other := entry(fV+fX, 1, 1<<19)
	for _, va := range addresses {
		for mapped := range 3 {
			b := some(t, 8)
			b.mapped(va, mapped, leaf, api.OK)
			size := kib4 * pages(mapped)
			for level := range 3 {
				for _, step := range []uint64{0, 1, kib4 - 1, size / 2, size - kib4, size - 1} {
					b.mapped(first(va, mapped)+step, level, other, api.ErrThere)
				}
			}
			for level := mapped + 1; level < 3; level++ {
				for _, step := range []uint64{0, kib4, size, kib4 * pages(level) / 2, kib4*pages(level) - 1} {
					b.mapped(first(va, level)+step, level, other, api.ErrThere)
				}
			}
			// A table stands on behind its last page, and a page of its own level may come.
			b.unmapped(va, leaf, api.OK)
			for level := mapped + 1; level < 3; level++ {
				b.mapped(va, level, other, api.ErrThere)
			}
			b.mapped(va, mapped, other, api.OK)
		}
	}
}

// P13.2: ErrArg ahead of ErrThere, that ahead of what the stock has to say.
func TestMapOrder(t *testing.T) {
	b, _ := newWorld(t, 8, 0, 3).newBoth()
	b.mapped(0x40000000, 0, leaf, api.OK) // no frame is left
	for _, x := range []struct {
		va    uint64
		level int
		p     api.Pte
		e     api.Errno
	}{
		{0x40000000, 0, leaf, api.ErrThere}, {0x40000000, 1, leaf, api.ErrThere}, {0x40000000, 2, leaf, api.ErrThere},
		{0x40000000, 3, leaf, api.ErrArg}, {0x40000000, -1, leaf, api.ErrArg}, {0x40000000, 0, entry(fV, 0, 0), api.ErrArg},
		{0x40000000, 1, entry(fAll, 0, 1), api.ErrArg}, {0x40000000, 2, entry(fAll, 0, 512), api.ErrArg}, {0x8040000000, 0, leaf, api.ErrArg},
		{0, 0, leaf, api.ErrFull}, {0, 1, leaf, api.ErrFull}, {0x40200000, 0, leaf, api.ErrFull},
		{0, 3, leaf, api.ErrArg}, {0, 0, entry(fV+fW, 0, 0), api.ErrArg}, {1 << 38, 0, leaf, api.ErrArg}, {0x40200000, 0, entry(fAll, 4, 0), api.ErrArg},
		{0x40200000, 1, leaf, api.OK}, {0x40201000, 0, leaf, api.ErrThere}, {0x40201000, 0, api.Pte{}, api.ErrArg},
		{0x80000000, 2, leaf, api.OK}, {0x80201000, 1, leaf, api.ErrThere}, {0x80201000, 0, leaf, api.ErrThere}, {0x80201000, 1, entry(fAll, 0, 511), api.ErrArg},
		{0xbffff000, 0, leaf, api.ErrThere}, {0xc0000000, 0, leaf, api.ErrFull}, {0x3ffff000, 0, leaf, api.ErrFull},
	} {
		b.mapped(x.va, x.level, x.p, x.e)
	}
	// The same with a frame beyond the memory as the next one.
	b, _ = newWorld(t, 3, 0, 9).newBoth()
	b.mapped(0x40000000, 0, leaf, api.OK)
	b.mapped(0x40000000, 0, leaf, api.ErrThere)
	b.mapped(0x40000000, 1, leaf, api.ErrThere)
	b.mapped(0x40000000, 1, entry(fV+fR, 0, 2), api.ErrArg)
	b.mapped(0x40200000, 0, leaf, api.ErrBound)
	b.mapped(0x40200000, 0, entry(fV, 0, 2), api.ErrArg)
	b.mapped(0x40200000, 1, leaf, api.OK)
}

// P13.2: how many frames each page takes, in which order they come, and what stands in
// them: noughts, but for entries with V alone above and the page's own.
func TestMapFrames(t *testing.T) {
	b, _ := newWorld(t, 20, 7, 9).newBoth()
	b.s.Take() // 8
	b.like.Take()
	p := entry(fAll, 3, 3<<18)
	for _, x := range []struct {
		va         uint64
		level      int
		used       int
		places, ws []uint64 // what stands anew
	}{
		{0xffffffffc0604abc, 0, 3, []uint64{0x7ff8, 0x9018, 0xa020}, []uint64{fV + 9*1024, fV + 10*1024, word(p)}},
		{0xffffffffc0605fff, 0, 3, []uint64{0xa028}, []uint64{word(p)}},
		{0xffffffffc0a00000, 0, 4, []uint64{0x9028, 0xb000}, []uint64{fV + 11*1024, word(p)}},
		{0xffffffffffffffff, 1, 4, []uint64{0x9ff8}, []uint64{word(p)}},
		{0x40200000, 1, 5, []uint64{0x7008, 0xc008}, []uint64{fV + 12*1024, word(p)}},
		{0x3fffffffff, 2, 5, []uint64{0x77f8}, []uint64{word(p)}},
		{0, 2, 5, []uint64{0x7000}, []uint64{word(p)}},
		{0x40001000, 0, 6, []uint64{0xc000, 0xd008}, []uint64{fV + 13*1024, word(p)}},
		{0xffffffc000000000, 0, 8, []uint64{0x7800, 0xe000, 0xf000}, []uint64{fV + 14*1024, fV + 15*1024, word(p)}},
		{0xffffffc000201000, 0, 8, nil, nil}, // no frame is left
	} {
		should := api.OK
		if x.places == nil {
			should = api.ErrFull
		}
		b.mapped(x.va, x.level, p, should)
		if b.x.Used() != x.used {
			t.Fatalf("Map(%x, %d): Used %d, not %d", x.va, x.level, b.x.Used(), x.used)
		}
		for i, place := range x.places {
			b.stands(place, x.ws[i])
		}
	}
}

// P13.2: the stock becomes full on the way: the table that was laid stays, is counted, and
// is there for the next page.
func TestMapFull(t *testing.T) {
	for _, beyond := range []bool{false, true} {
		size, n, should := 8, 4, api.ErrFull
		if beyond {
			size, n, should = 7, 6, api.ErrBound
		}
		b, _ := newWorld(t, size, 3, n).newBoth() // the frames 3 to 6 are there
		b.mapped(api.SharedBase, 0, leaf, api.OK)
		for range 2 {
			b.mapped(0x80000000, 0, leaf, should)
		}
		if b.x.Used() != 4 {
			t.Fatalf("Used: %d", b.x.Used())
		}
		b.stands(0x3010, fV+6*1024)
		if l, e := b.x.Find(0x80000000); l != (api.Leaf{}) || e != api.ErrNone {
			t.Fatalf("Find: %+v, %v", l, e)
		}
		b.mapped(0x80000000, 2, leaf, api.ErrThere)
		b.mapped(0xc0000000, 0, leaf, should)
		b.mapped(0xc0000000, 1, leaf, should)
		b.mapped(0x80200000, 0, leaf, should)
		b.mapped(0x80200000, 1, leaf, api.OK)
		b.mapped(0x80000000, 1, leaf, api.OK)
		b.mapped(0xc0000000, 2, leaf, api.OK)
		if b.x.Used() != 4 {
			t.Fatalf("Used: %d", b.x.Used())
		}
		b.rest()
	}
}

// P13.2: a stock that has frames again: a table that was laid is used on.
func TestMapGiven(t *testing.T) {
	b, _ := newWorld(t, 8, 0, 2).newBoth()
	b.mapped(0x40000000, 0, leaf, api.ErrFull)
	if b.x.Used() != 2 {
		t.Fatalf("Used: %d", b.x.Used())
	}
	b.mapped(0x40000000, 0, leaf, api.ErrFull)
	b, _ = newWorld(t, 8, 0, 4).newBoth()
	for range 2 { // 1, 2
		b.s.Take()
		b.like.Take()
	}
	b.mapped(0x40000000, 0, leaf, api.ErrFull) // the table above is 3
	b.s.Give(1)
	b.like.Give(1)
	b.mapped(0x40000000, 0, leaf, api.OK)
	b.stands(0x8, fV+3*1024)
	b.stands(0x3000, fV+1024)
	b.stands(0x1000, word(leaf))
	if b.x.Used() != 3 {
		t.Fatalf("Used: %d", b.x.Used())
	}
}

// P13.3: each entry that may be, of pages of each level, at addresses all over them; no
// other page changes.
func TestChange(t *testing.T) {
	for level := range 3 {
		b := some(t, 12)
		va := uint64(0xffffffd246800000)
		if level == 2 {
			va = 0xffffffd240000000
		}
		size := kib4 * pages(level)
		for i := range uint64(3) {
			b.mapped(va+(i-1)*size, level, leaf, api.OK)
		}
		b.mapped(0x1000, 0, leaf, api.OK)
		used := b.x.Used()
		for i, p := range fine(level) {
			step := []uint64{0, 1, size / 2, size - 1, 0xabc}[i%5]
			b.changed(va+step, p, api.OK)
			b.stands(b.place(va, level), word(p))
			b.stands(b.place(va-1, level), word(leaf))
			b.stands(b.place(va+size, level), word(leaf))
		}
		b.changed(va, leaf, api.OK)
		b.around(va)
		if b.x.Used() != used {
			t.Errorf("Used: %d, not %d", b.x.Used(), used)
		}
		for _, p := range wrong(level) {
			if e := b.changes(va+size-1, p); e != api.ErrArg {
				t.Errorf("Change of the level %d, %+v: %v", level, p, e)
			}
		}
		b.same()
	}
}

// P13.3: what isn't mapped isn't changed nor taken away, whatever entry is told.
func TestChangeNone(t *testing.T) {
	for mapped := -1; mapped < 3; mapped++ {
		for _, va := range addresses {
			b := some(t, 8)
			beside := []uint64{va, va ^ kib4, va ^ mib2, va ^ gib1}
			if mapped >= 0 {
				b.mapped(va, mapped, leaf, api.OK)
				beside = []uint64{va ^ kib4*pages(mapped), first(va, mapped) - 1, first(va, mapped) + kib4*pages(mapped)}
			}
			for _, other := range append(notCanonical()[:9], append(beside, va^1<<38, va^1<<39, va^1<<63)...) {
				for _, p := range []api.Pte{leaf, {}, entry(fV, 0, 1), entry(fAll, 9, all)} {
					if e := b.changes(other, p); e != api.ErrNone {
						t.Fatalf("Change(%x, %+v): %v", other, p, e)
					}
				}
				if p, e := b.unmaps(other); p != (api.Pte{}) || e != api.ErrNone {
					t.Fatalf("Unmap(%x): %+v, %v", other, p, e)
				}
			}
			b.same()
		}
	}
}

// P13.3: a page that is gone: what it was is told, its word is 0, tables stay, and it may be
// mapped again, of what entry and at what address of it one likes.
func TestUnmap(t *testing.T) {
	for _, va := range addresses {
		for level := range 3 {
			b := some(t, 8)
			b.mapped(va, level, leaf, api.OK)
			beside := va ^ kib4*pages(level)
			b.mapped(beside, level, entry(fV+fR, 1, 1<<20), api.OK)
			p := entry(fV+fX+fU+fG, 2, 1<<19)
			b.changed(va, p, api.OK)
			size := kib4 * pages(level)
			place, used, free := b.place(va, level), b.x.Used(), b.s.Free()
			b.unmapped(first(va, level)+size-1, p, api.OK)
			b.stands(place, 0)
			b.unmapped(va, api.Pte{}, api.ErrNone)
			b.changed(va, p, api.ErrNone)
			b.around(va)
			b.mapped(first(va, level)+size/2, level, leaf, api.OK)
			b.stands(place, word(leaf))
			b.around(va)
			if b.x.Used() != used || b.s.Free() != free {
				t.Errorf("%d used, %d free, not %d, %d", b.x.Used(), b.s.Free(), used, free)
			}
			b.unmapped(beside, entry(fV+fR, 1, 1<<20), api.OK)
			b.unmapped(va, leaf, api.OK)
			if b.x.Used() != used || b.s.Free() != free || len(b.x.Pages()) != 0 {
				t.Errorf("%d used, %d free, %v", b.x.Used(), b.s.Free(), b.x.Pages())
			}
		}
	}
}

// P13.3: where a great page was, smaller ones may be, in tables that are laid for them.
func TestUnmapSmaller(t *testing.T) {
	b := some(t, 8)
	b.mapped(0x80000000, 2, leaf, api.OK)
	b.unmapped(0xbfffffff, leaf, api.OK)
	b.mapped(0x80200000, 1, leaf, api.OK)
	b.mapped(0x80000000, 2, leaf, api.ErrThere)
	b.unmapped(0x80200fff, leaf, api.OK)
	b.mapped(0x80201000, 0, leaf, api.OK)
	b.mapped(0x80200000, 1, leaf, api.ErrThere)
	if b.x.Used() != 3 {
		t.Errorf("Used: %d", b.x.Used())
	}
}

// P13.3: pages by their addresses, in both halves, of all levels, in whatever order they
// were mapped.
func TestPages(t *testing.T) {
	want := []api.Mapped{
		{Va: 0, Level: 0}, {Va: 0x1000, Level: 0}, {Va: 0x200000, Level: 1}, {Va: 0x400000, Level: 0}, {Va: 0x3fe00000, Level: 1},
		{Va: 0x40000000, Level: 2}, {Va: 0x80000000, Level: 0}, {Va: 0x3f80000000, Level: 2}, {Va: 0x3fffdff000, Level: 0}, {Va: 0x3fffe00000, Level: 1},
		{Va: 0xffffffc000000000, Level: 1}, {Va: 0xffffffc0003ff000, Level: 0}, {Va: 0xffffffc040000000, Level: 2},
		{Va: 0xffffffff80000000, Level: 2}, {Va: 0xffffffffffc00000, Level: 1}, {Va: 0xfffffffffffff000, Level: 0},
	}
	for i := range want {
		want[i].Pte = entry(fV+fR+16*i%256, i%4, uint64(i)<<18)
	}
	for turn := range len(want) {
		for _, step := range []int{1, 3, 5, 15} { // each comes by all pages
			b := some(t, 30)
			for i := range want {
				x := want[(turn+i*step)%len(want)]
				within := kib4*pages(x.Level) - uint64(1+i)
				b.mapped(x.Va+within, x.Level, x.Pte, api.OK)
			}
			if is := b.x.Pages(); !slices.Equal(is, want) {
				t.Fatalf("Pages: %+v", is)
			}
		}
	}
}

// P13.3: a table's entries from the first to the last.
func TestPagesWhole(t *testing.T) {
	for level := range 3 {
		b := some(t, 4)
		for i := range uint64(512) {
			va := i * kib4 * pages(level)
			if va >= 1<<38 {
				va += all - 1<<39 + 1
			}
			if e := b.maps(va, level, entry(fV+fX, int(i%4), i*pages(level))); e != api.OK {
				t.Fatalf("Map(%x): %v", va, e)
			}
		}
		b.same()
		if l := b.x.Pages(); len(l) != 512 || b.x.Used() != 3-level {
			t.Errorf("%d pages, %d used", len(l), b.x.Used())
		}
	}
}

// P13.3: what Pages answered isn't changed by what is done later, nor changes it what later ones answer.
func TestPagesKept(t *testing.T) {
	b := some(t, 12)
	for i := range uint64(5) {
		b.mapped(i*kib4, 0, leaf, api.OK)
	}
	l := b.x.Pages()
	held := slices.Clone(l)
	b.changed(0, entry(fV+fR, 0, 9), api.OK)
	b.unmapped(kib4, leaf, api.OK)
	b.mapped(all, 0, leaf, api.OK)
	b.mapped(5*kib4, 0, leaf, api.OK)
	b.x.Pages()
	if !slices.Equal(l, held) {
		t.Errorf("what was told is\n%+v, not\n%+v", l, held)
	}
	again := b.x.Pages()
	spare := again[:cap(again)]
	for i := range spare {
		spare[i] = api.Mapped{Va: 1, Level: 7}
	}
	b.same()
	for _, va := range addresses {
		b.finds(va)
	}
}

// P13: two tables over one memory and one stock keep apart.
func TestApart(t *testing.T) {
	w := newWorld(t, 24, 2, 20)
	x, _ := w.newBoth()
	y, _ := w.newBoth()
	same := func() {
		t.Helper()
		x.same()
		y.same()
		for _, va := range addresses {
			x.finds(va)
			y.finds(va)
		}
	}
	if x.x.Root() != 2 || y.x.Root() != 3 {
		t.Fatalf("Root: %d, %d", x.x.Root(), y.x.Root())
	}
	x.mapped(0x40000000, 0, leaf, api.OK)
	same()
	y.mapped(0x40000000, 0, entry(fV+fX, 0, 7), api.OK)
	same()
	y.mapped(0x40001000, 0, leaf, api.OK)
	y.mapped(0x80000000, 2, leaf, api.OK)
	same()
	x.changed(0x40000000, entry(fV+fR, 1, 5), api.OK)
	same()
	x.unmapped(0x80000000, api.Pte{}, api.ErrNone)
	y.unmapped(0x40000fff, entry(fV+fX, 0, 7), api.OK)
	same()
	x.mapped(0xffffffc000000000, 0, leaf, api.OK)
	y.mapped(0xffffffc000000000, 1, leaf, api.OK)
	same()
	for _, place := range []uint64{0x2008, 0x3008, 0x2010, 0x3010} {
		should := map[uint64]uint64{0x2008: fV + 4*1024, 0x3008: fV + 6*1024, 0x2010: 0, 0x3010: word(leaf)}[place]
		x.stands(place, should)
	}
	if x.x.Used() != 5 || y.x.Used() != 4 || w.s.Used() != 9 {
		t.Errorf("%d, %d, %d", x.x.Used(), y.x.Used(), w.s.Used())
	}
}

// chance makes numbers that are alike in each run.
type chance uint64

func (c *chance) next(n int) int {
	*c = *c*6364136223846793005 + 1442695040888963407
	return int(uint64(*c>>33) % uint64(n))
}

// address: most in a few tables, so that pages meet; some anywhere.
func (c *chance) address() uint64 {
	va := uint64(c.next(3))*gib1 + uint64(c.next(3))*mib2 + uint64(c.next(4))*kib4
	switch c.next(8) {
	case 0:
		va = uint64(c.next(1<<31)) << c.next(8)
	case 1, 2:
		va += 509 * gib1
	}
	va += uint64(c.next(kib4))
	if va >= 1<<38 && va < 1<<39 {
		va += all - 1<<39 + 1
	}
	if c.next(40) == 0 {
		va ^= 1 << (38 + c.next(26))
	}
	return va
}

// entry: most may be laid at a level.
func (c *chance) entry(level int) api.Pte {
	flags := fV + fR + c.next(2)*fW + c.next(16)*16
	if c.next(4) == 0 {
		flags = c.next(256)
	}
	p := entry(flags, c.next(4), uint64(c.next(1<<20))*pages(level))
	switch c.next(30) {
	case 0:
		p.Rsw = noRsws[c.next(len(noRsws))]
	case 1:
		p.Ppn = noPpns[c.next(len(noPpns))]
	case 2:
		p.Ppn += uint64(c.next(1 << 18))
	}
	return p
}

// step does one thing with tables, right or wrong.
func (b *both) step(c *chance) {
	b.t.Helper()
	va := c.address()
	level := []int{0, 0, 0, 0, 1, 1, 2, c.next(5) - 1}[c.next(8)]
	fit := level
	if l := b.level(va); l >= 0 {
		fit = l
	}
	fit = min(max(fit, 0), 2)
	switch c.next(5) {
	case 0, 1:
		b.maps(va, level, c.entry(min(max(level, 0), 2)))
	case 2:
		b.changes(va, c.entry(fit))
	case 3:
		b.unmaps(va)
	default:
		b.finds(va)
	}
}

// P13: long mixed runs of one and of two tables, in stocks that are great, that become
// full, and that end beyond the memory, held against a model and against layer 10's Find.
func TestMany(t *testing.T) {
	for i, x := range []struct{ size, from, n, tables int }{
		{40, 0, 40, 1}, {8, 1, 7, 1}, {9, 3, 20, 1}, {30, 5, 25, 2}, {6, 0, 6, 2}, {7, 2, 30, 2}, {1, 0, 1, 1}, {2, 0, 2, 1}, {2, 0, 3, 1},
	} {
		w := newWorld(t, x.size, x.from, x.n)
		c := chance(i)
		var l []*both
		for range x.tables {
			b, e := w.newBoth()
			if e != api.OK {
				t.Fatalf("%v: New: %v", x, e)
			}
			l = append(l, b)
		}
		for j := range 6000 {
			b := l[c.next(len(l))]
			b.step(&c)
			if j%50 == 0 {
				b.around(c.address())
			}
			if j%100 == 0 {
				for _, b := range l {
					b.same()
				}
			}
		}
		for _, b := range l {
			b.same()
			for _, p := range b.list() {
				b.around(p.Va)
			}
		}
		w.rest()
	}
}

// P13: nil tables have nothing, whatever they are asked.
func TestNil(t *testing.T) {
	var x *table.Tables
	for range 2 {
		if x.Root() != -1 || x.Used() != 0 || len(x.Pages()) != 0 {
			t.Errorf("%d, %d, %v", x.Root(), x.Used(), x.Pages())
		}
		for _, va := range append(notCanonical(), addresses...) {
			if l, e := x.Find(va); l != (api.Leaf{}) || e != api.ErrNil {
				t.Errorf("Find(%x): %+v, %v", va, l, e)
			}
			for _, p := range []api.Pte{leaf, {}, entry(fAll, -1, all)} {
				for _, level := range append([]int{0, 1, 2}, noLevels...) {
					if e := x.Map(va, level, p); e != api.ErrNil {
						t.Errorf("Map(%x, %d, %+v): %v", va, level, p, e)
					}
				}
				if e := x.Change(va, p); e != api.ErrNil {
					t.Errorf("Change(%x, %+v): %v", va, p, e)
				}
			}
			if p, e := x.Unmap(va); p != (api.Pte{}) || e != api.ErrNil {
				t.Errorf("Unmap(%x): %+v, %v", va, p, e)
			}
		}
	}
}
