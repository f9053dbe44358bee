package mmu_test

import (
	"bytes"
	"math"
	"slices"
	"testing"

	"runrig/api"
	"runrig/mmu"
	"runrig/phys"
	"runrig/tlb"
)

const (
	all     = math.MaxUint64
	mostPpn = 1<<44 - 1
	kib4    = 1 << 12
	mib2    = 1 << 21
	gib1    = 1 << 30
	on      = 8 << 60 // of a satp's word
)

// An entry's flags, as numbers.
const (
	fV, fR, fW, fX = 1, 2, 4, 8
	fU, fG, fA, fD = 16, 32, 64, 128
	fAll           = 255
	fUser          = fAll - fG // of one space's page that a user may do all with
	fKernel        = fAll - fG - fU
)

// sizes that a word may have, and numbers that are none: small ones, those near the ends
// of int, and such as are one in 8, 16, 32 or 63 bits.
var (
	sizes   = []int{1, 2, 4, 8}
	noSizes = []int{
		0, 3, 5, 6, 7, 9, 10, 12, 15, 16, 17, 24, 31, 32, 33, 64, 128, 4096, -1, -2, -3, -4, -5, -7, -8, -9, -16,
		256, 257, 258, 260, 264, 65537, 65538, 65540, 65544, -255, -254, -252, -248,
		math.MaxInt32, math.MinInt32, 1 << 32, 1<<32 + 1, 1<<32 + 2, 1<<32 + 4, 1<<32 + 8, 1 - 1<<32, 8 - 1<<32,
		1 << 62, 1<<62 + 4, -1 << 62, math.MaxInt, math.MaxInt - 1, math.MaxInt - 3, math.MaxInt - 7,
		math.MinInt, math.MinInt + 1, math.MinInt + 2, math.MinInt + 4, math.MinInt + 8,
	}
)

// addresses that are canonical, at a multiple of eight: at the ends of both halves, such
// whose three numbers are unlike, and such as the program uses.
var addresses = []uint64{
	0, 0x8, 0xff8, 0x1000, 0x1ff8, 0x200000, 0x3ffffff8, api.CodeBase, api.PrivateBase + 0x120,
	api.SharedBase, api.SharedBase + 0x2008, 0x3f81345678, 0x1ffffff000, 1<<38 - 8,
	0xffffffc000000000, 0xffffffc000403ab8, 0xffffffd2468acff8, all - 4095, all - 7,
}

// notCanonical: the words just beyond both halves, and ordinary ones with a bit above that is unlike.
func notCanonical() []uint64 {
	l := []uint64{1 << 38, 1<<38 + 8, 1<<39 - 8, 1 << 39, 1 << 40, 1<<63 - 8, 1 << 63, 0xffffff8000000000, 0xffffffbffffffff8}
	for _, va := range addresses {
		for i := 38; i < 64; i++ {
			l = append(l, va^1<<i)
		}
	}
	return l
}

// accesses, and the causes that belong to each.
var (
	accesses = []api.Access{api.Fetch, api.Load, api.Store}
	pages    = []api.Cause{12, 13, 15}
	bounds   = []api.Cause{1, 5, 7}
	aligns   = []api.Cause{0, 4, 6}
)

var user, kernel = api.Mode{User: true}, api.Mode{}

// modes: every setting of User, Sum and Mxr.
func modes() []api.Mode {
	var l []api.Mode
	for i := range 8 {
		l = append(l, api.Mode{User: i&4 != 0, Sum: i&2 != 0, Mxr: i&1 != 0})
	}
	return l
}

// word of an entry: its flags, Rsw and Ppn.
func word(flags, rsw, ppn uint64) uint64 {
	return flags + 256*rsw + 1024*ppn
}

// of is the entry that a word has, by dividing.
func of(w uint64) api.Pte {
	var b [8]bool
	for i := range b {
		b[i] = w%2 == 1
		w /= 2
	}
	return api.Pte{
		V: b[0], R: b[1], W: b[2], X: b[3], U: b[4], G: b[5], A: b[6], D: b[7],
		Rsw: int(w % 4), Ppn: w / 4 % (1 << 44),
	}
}

// frames that a level's page has.
func frames(level int) uint64 {
	return [3]uint64{1, 512, 512 * 512}[level]
}

// number of an address at a level, by dividing.
func number(va uint64, level int) uint64 {
	return va / 4096 / frames(level) % 512
}

// allowed: may an access be done with a page of a right leaf?
func allowed(p api.Pte, a api.Access, o api.Mode) bool {
	mine := p.U == o.User || p.U && o.Sum && a != api.Fetch
	may := []bool{p.X, p.R || p.X && o.Mxr, p.W && p.D}[a]
	return p.A && mine && may
}

// world is a unit with its memory and its buffer, and what they should be: what stands in
// the memory, the words by their places that aren't noughts, and a buffer that is filled alike.
type world struct {
	t      *testing.T
	m      *phys.Memory
	b      *tlb.Buffer
	u      *mmu.Unit
	size   uint64
	bytes  map[uint64]byte
	buffer *tlb.Buffer
	satp   api.Satp
	mode   api.Mode
	find   api.Errno // how the tables' last walk ended
}

func newWorld(t *testing.T, frames, sets, ways int) *world {
	t.Helper()
	m, e := phys.New(frames)
	b, f := tlb.New(sets, ways)
	like, g := tlb.New(sets, ways)
	u := mmu.New(m, b)
	if e != api.OK || f != api.OK || g != api.OK || u == nil {
		t.Fatalf("New: %v, %v, %v, %v", e, f, g, u)
	}
	w := &world{t: t, m: m, b: b, u: u, size: uint64(frames) * 4096, bytes: map[uint64]byte{}, buffer: like}
	w.same()
	return w
}

// get a word of the bytes that should stand there.
func (w *world) get(at uint64, size int) uint64 {
	var v uint64
	for i := size - 1; i >= 0; i-- {
		v = v*256 + uint64(w.bytes[at+uint64(i)])
	}
	return v
}

// lay a word in the bytes that should stand there.
func (w *world) lay(at uint64, size int, v uint64) {
	for i := range uint64(size) {
		w.bytes[at+i] = byte(v)
		v /= 256
	}
}

// poke a word into the memory itself, beside the unit.
func (w *world) poke(at uint64, v uint64) {
	w.t.Helper()
	if e := w.m.Store(at, 8, v); e != api.OK {
		w.t.Fatalf("Store(%x): %v", at, e)
	}
	w.lay(at, 8, v)
}

// put an entry at an address's number of a level, in a frame.
func (w *world) put(frame, va uint64, level int, v uint64) {
	w.t.Helper()
	w.poke(frame*4096+number(va, level)*8, v)
}

// fill a leaf into the buffer itself, beside the unit.
func (w *world) fill(va uint64, asid int, l api.Leaf, pick int) {
	w.t.Helper()
	if !w.b.Fill(va, asid, l, pick) || !w.buffer.Fill(va, asid, l, pick) {
		w.t.Fatalf("Fill(%x, %d, %+v, %d)", va, asid, l, pick)
	}
}

// setSatp of both, and hold what SetSatp and Satp answer.
func (w *world) setSatp(v uint64) {
	w.t.Helper()
	mode := v / (1 << 60)
	should := mode == 0 || mode == 8
	if should {
		w.satp = api.Satp{On: mode == 8, Asid: int(v / (1 << 44) % (1 << 16)), Ppn: v % (1 << 44)}
	}
	if is := w.u.SetSatp(v); is != should {
		w.t.Fatalf("SetSatp(%x): %v", v, is)
	}
	w.same()
}

// setMode of both.
func (w *world) setMode(o api.Mode) {
	w.mode = o
	w.u.SetMode(o)
}

// walk is what the tables should tell.
func (w *world) walk(va uint64) (api.Leaf, api.Errno) {
	if !w.satp.On {
		return api.Leaf{}, api.ErrArg
	}
	table := w.satp.Ppn
	for level := 2; level >= 0; level-- {
		at := table*4096 + number(va, level)*8
		if at >= w.size {
			return api.Leaf{}, api.ErrBound
		}
		v := w.get(at, 8)
		p := of(v)
		switch {
		case v >= 1<<54 || !p.V || p.W && !p.R:
			return api.Leaf{}, api.ErrNone
		case (p.R || p.X) && p.Ppn%frames(level) == 0:
			return api.Leaf{Pte: p, Level: level, At: at}, api.OK
		case p.R || p.X || p.U || p.A || p.D:
			return api.Leaf{}, api.ErrNone
		}
		table = p.Ppn
	}
	return api.Leaf{}, api.ErrNone
}

// reach is where an access should come to, or its cause.
func (w *world) reach(va uint64, size int, a api.Access, pick int) (uint64, api.Cause) {
	if !slices.Contains(sizes, size) || va%uint64(size) != 0 {
		return 0, aligns[a]
	}
	if high := va / (1 << 38); high != 0 && high != 1<<26-1 {
		return 0, pages[a]
	}
	l, is := w.buffer.Find(va, w.satp.Asid)
	if !is {
		l, w.find = w.walk(va)
		if w.find == api.ErrBound {
			return 0, bounds[a]
		}
		if w.find != api.OK {
			return 0, pages[a]
		}
		w.buffer.Fill(va, w.satp.Asid, l, pick)
	}
	p := l.Pte
	if !p.V || !p.R && (p.W || !p.X) || !allowed(p, a, w.mode) {
		return 0, pages[a]
	}
	n := frames(l.Level) * 4096
	at := p.Ppn*4096/n*n + va%n
	if at >= w.size {
		return 0, bounds[a]
	}
	return at, api.NoCause
}

// same holds the unit and its buffer against what they should be.
func (w *world) same() {
	w.t.Helper()
	if s := w.u.Satp(); s != w.satp {
		w.t.Fatalf("Satp: %+v, not %+v", s, w.satp)
	}
	if is, should := w.b.List(), w.buffer.List(); !slices.Equal(is, should) {
		w.t.Fatalf("the buffer has\n%+v, not\n%+v", is, should)
	}
}

// sameMemory holds all of a small memory against what it should be.
func (w *world) sameMemory() {
	w.t.Helper()
	for f := range w.m.Frames() {
		is, _ := w.m.Page(f)
		should := make([]byte, 4096)
		for i := range should {
			should[i] = w.bytes[uint64(f*4096+i)]
		}
		if !bytes.Equal(is, should) {
			w.t.Fatalf("frame %d has\n%x, not\n%x", f, is, should)
		}
	}
}

// fetch from both, and answer what came.
func (w *world) fetch(va uint64, pick int) (uint64, api.Cause) {
	w.t.Helper()
	at, c := w.reach(va, 4, api.Fetch, pick)
	var v uint64
	if c == api.NoCause {
		v = w.get(at, 4)
	}
	is, got := w.u.Fetch(va, pick)
	if is != v || got != c {
		w.t.Fatalf("Fetch(%x, %d): %x, %d, not %x, %d", va, pick, is, got, v, c)
	}
	w.same()
	return is, got
}

// load from both.
func (w *world) load(va uint64, size, pick int) (uint64, api.Cause) {
	w.t.Helper()
	at, c := w.reach(va, size, api.Load, pick)
	var v uint64
	if c == api.NoCause {
		v = w.get(at, size)
	}
	is, got := w.u.Load(va, size, pick)
	if is != v || got != c {
		w.t.Fatalf("Load(%x, %d, %d): %x, %d, not %x, %d", va, size, pick, is, got, v, c)
	}
	w.same()
	return is, got
}

// around holds the words about a place.
func (w *world) around(at uint64) {
	w.t.Helper()
	for i := range uint64(5) {
		at := at/8*8 + 8*i - 16
		if v, e := w.m.Load(at, 8); e == api.OK && v != w.get(at, 8) {
			w.t.Fatalf("%x stands at %x, not %x", v, at, w.get(at, 8))
		}
	}
}

// store to both.
func (w *world) store(va uint64, size int, v uint64, pick int) api.Cause {
	w.t.Helper()
	at, c := w.reach(va, size, api.Store, pick)
	if c == api.NoCause {
		w.lay(at, size, v)
	}
	got := w.u.Store(va, size, v, pick)
	if got != c {
		w.t.Fatalf("Store(%x, %d, %x, %d): %d, not %d", va, size, v, pick, got, c)
	}
	w.around(at)
	w.same()
	return got
}

// swap in both; turn is handed the word that should be there, once.
func (w *world) swap(va uint64, size int, turn func(uint64) uint64, pick int) (uint64, api.Cause) {
	w.t.Helper()
	at, c := w.reach(va, size, api.Store, pick)
	var v uint64
	calls := 0
	counted := turn
	if turn != nil {
		counted = func(old uint64) uint64 {
			if calls++; old != v || calls > 1 || c != api.NoCause {
				w.t.Fatalf("Swap(%x, %d) turns %x, call %d, not %x", va, size, old, calls, v)
			}
			return turn(old)
		}
	}
	if c == api.NoCause {
		v = w.get(at, size)
		if turn != nil {
			w.lay(at, size, turn(v))
		}
	}
	is, got := w.u.Swap(va, size, counted, pick)
	if is != v || got != c || turn != nil && c == api.NoCause && calls != 1 {
		w.t.Fatalf("Swap(%x, %d, %d): %x, %d, not %x, %d; %d calls", va, size, pick, is, got, v, c, calls)
	}
	w.around(at)
	w.same()
	return is, got
}

// fence both.
func (w *world) fence(va []uint64, asid []int) int {
	w.t.Helper()
	should := w.buffer.Fence(va, asid)
	is := w.u.Fence(va, asid)
	if is != should {
		w.t.Fatalf("Fence(%x, %d): %d, not %d", va, asid, is, should)
	}
	w.same()
	return is
}

// ends of each access at an address: the cause of each by each call, against written ones.
func (w *world) ends(va uint64, size, pick int, causes []api.Cause) {
	w.t.Helper()
	_, l := w.load(va, size, pick)
	_, s := w.swap(va, size, func(v uint64) uint64 { return v + 0x0101010101010101 }, pick)
	_, n := w.swap(va, size, nil, pick)
	if x := w.store(va, size, 0x1122334455667788, pick); l != causes[1] || x != causes[2] || s != causes[2] || n != causes[2] {
		w.t.Errorf("%x of %d: load %d, store %d, swap %d, %d, not %d", va, size, l, x, s, n, causes)
	}
	if size != 4 {
		return
	}
	if _, f := w.fetch(va, pick); f != causes[0] {
		w.t.Errorf("%x: fetch %d, not %d", va, f, causes[0])
	}
}

// none is the causes of no trap.
var none = []api.Cause{-1, -1, -1}

// road is a world in which the tables in the frames 1, 2 and 3 lead an address down to a
// leaf of the level 0, of the frame 4, but that at one level another word stands.
func road(t *testing.T, va uint64, level int, v uint64) *world {
	t.Helper()
	n := 8
	if level > 0 {
		n = api.MostFrames
	}
	w := newWorld(t, n, 2, 2)
	w.put(1, va, 2, word(fV, 0, 2))
	w.put(2, va, 1, word(fV, 0, 3))
	w.put(3, va, 0, word(fUser, 0, 4))
	w.put(uint64(3-level), va, level, v)
	w.setSatp(on + 1)
	w.setMode(user)
	return w
}

// P12.2: the chapter's example, and beside it.
func TestExample(t *testing.T) {
	w := newWorld(t, 1, 1, 1)
	if v, c := w.load(1, 4, 0); v != 0 || c != api.LoadAlign {
		t.Errorf("Load(1, 4): %x, %d", v, c)
	}
	if v, c := w.load(4, 4, 0); v != 0 || c != api.LoadPage {
		t.Errorf("Load(4, 4): %x, %d", v, c)
	}
}

// P12.1: New of what is nil.
func TestNewNil(t *testing.T) {
	m, _ := phys.New(1)
	b, _ := tlb.New(1, 1)
	for _, u := range []*mmu.Unit{mmu.New(nil, nil), mmu.New(m, nil), mmu.New(nil, b)} {
		if u != nil {
			t.Errorf("New: %v", u)
		}
	}
	if mmu.New(m, b) == nil {
		t.Error("New: nil")
	}
}

// P12.1: a new unit's satp isn't On, and it is of the kernel's mode, without Sum and Mxr.
func TestNewUnit(t *testing.T) {
	w := newWorld(t, 8, 4, 2)
	if s := w.u.Satp(); s != (api.Satp{}) {
		t.Errorf("Satp: %+v", s)
	}
	w.poke(0, word(fUser, 0, 0))
	w.ends(0, 4, 0, pages)
	w.put(1, 0, 2, word(fV, 0, 2))
	w.put(2, 0, 1, word(fV, 0, 3))
	w.put(3, 0x1000, 0, word(fKernel, 0, 4))
	w.put(3, 0x2000, 0, word(fUser, 0, 5))
	w.put(3, 0x3000, 0, word(fV+fX+fA+fD, 0, 6))
	w.setSatp(on + 1)
	w.ends(0x1ffc, 4, 0, none)
	w.ends(0x2000, 4, 0, pages)
	w.ends(0x3000, 4, 0, []api.Cause{-1, 13, 15})
}

// P12.1: words of every mode, with the bits of the others set and not: those that are a
// satp are the unit's, of the others the old one stays.
func TestSetSatp(t *testing.T) {
	w := newWorld(t, 2, 1, 1)
	for _, rest := range []uint64{0, 1, 5, mostPpn, 1 << 44, 7<<44 + 3, 0xffff << 44, 1<<60 - 1} {
		for mode := range uint64(16) {
			w.setSatp(on + 9<<44 + mode)
			w.setSatp(mode<<60 + rest)
			should := api.Satp{On: true, Asid: 9, Ppn: mode}
			if mode == 0 || mode == 8 {
				should = api.Satp{On: mode == 8, Asid: int(rest >> 44), Ppn: rest & mostPpn}
			}
			if s := w.u.Satp(); s != should {
				t.Errorf("SetSatp(%x): %+v", mode<<60+rest, s)
			}
		}
	}
	for i := range 64 {
		w.setSatp(1 << i)
		w.setSatp(on ^ 1<<i)
		w.setSatp(all ^ 1<<i)
	}
}

// P12.1: of a word that is no satp the old one stays, in what is answered next too; and one
// that isn't On leads to no table.
func TestSetSatpNext(t *testing.T) {
	const va = 0x2468ac000
	w := road(t, va, 0, word(fUser, 0, 4))
	w.poke(0x4000, 0x1234)
	w.poke(0x5000, 0x5678)
	w.put(6, va, 2, word(fV, 0, 7))
	w.put(7, va, 1, word(fV, 0, 0))
	w.put(0, va, 0, word(fUser, 0, 5))
	next := func(v uint64, c api.Cause) {
		t.Helper()
		w.fence(nil, nil)
		if is, got := w.load(va, 8, 0); is != v || got != c {
			t.Errorf("by %+v: %x, %d, not %x, %d", w.u.Satp(), is, got, v, c)
		}
	}
	next(0x1234, -1)
	for _, mode := range []uint64{1, 2, 3, 4, 5, 6, 7, 9, 10, 11, 12, 13, 14, 15} {
		w.setSatp(mode<<60 + 6)
		next(0x1234, -1)
	}
	w.setSatp(on + 6)
	next(0x5678, -1)
	w.setSatp(6)
	next(0, api.LoadPage)
	w.setSatp(9<<60 + 1)
	next(0, api.LoadPage)
	w.setSatp(on + 1)
	next(0x1234, -1)
	w.setSatp(0)
	next(0, api.LoadPage)
}

// P12.1: the buffer stays as it is, whatever satp comes, and it is asked even where the
// satp isn't On or leads elsewhere.
func TestSetSatpBuffer(t *testing.T) {
	const va = api.SharedBase
	w := road(t, va, 0, word(fUser, 0, 4))
	w.poke(0x4000, 0x1234)
	w.load(va, 8, 0)
	for _, v := range []uint64{on + 1, on, on + 5, on + mostPpn, 0, 1, 5, mostPpn, 1 << 60, 9<<60 + 5, all} {
		w.setSatp(v)
		if n := w.b.Len(); n != 1 {
			t.Errorf("SetSatp(%x): %d entries", v, n)
		}
		if is, c := w.load(va, 8, 0); is != 0x1234 || c != api.NoCause {
			t.Errorf("SetSatp(%x): %x, %d", v, is, c)
		}
		w.setSatp(v ^ 3<<44) // another space
		if _, c := w.load(va, 8, 0); v>>60 == 0 && c != api.LoadPage {
			t.Errorf("SetSatp(%x): %d", v^3<<44, c)
		}
		w.setSatp(v)
		w.fence(nil, []int{3})
	}
}

// P12.2: words of each size, all over a page, from the first to the last one; beside a
// multiple of the size none.
func TestSizes(t *testing.T) {
	for _, va := range []uint64{0x5000, 0x3f81345000, 0xffffffd2468ac000} {
		w := road(t, va, 0, word(fUser, 0, 4))
		for i := range uint64(512) {
			w.poke(0x4000+8*i, 0x8182838485868788+i*0x0101010101010101)
		}
		for _, size := range sizes {
			for _, in := range []uint64{0, 8, 16, 0x7f8, 0x800, 0xff0, 0xff8} {
				for more := range uint64(8) {
					causes := none
					if more%uint64(size) != 0 {
						causes = []api.Cause{0, 4, 6}
					}
					w.ends(va+in+more, size, 0, causes)
				}
			}
		}
		w.sameMemory()
	}
}

// P12.2: what is read and laid, written out.
func TestWords(t *testing.T) {
	const va = api.PrivateBase
	w := road(t, va, 0, word(fUser, 0, 4))
	w.poke(0x4ff0, 0x8877665544332211)
	w.poke(0x4ff8, 0xffeeddccbbaa9988)
	for _, x := range []struct {
		va   uint64
		size int
		v    uint64
	}{
		{0xff0, 8, 0x8877665544332211}, {0xff8, 8, 0xffeeddccbbaa9988}, {0xff0, 4, 0x44332211}, {0xff4, 4, 0x88776655},
		{0xffc, 4, 0xffeeddcc}, {0xff2, 2, 0x4433}, {0xffe, 2, 0xffee}, {0xff1, 1, 0x22}, {0xfff, 1, 0xff}, {0, 8, 0},
	} {
		if v, c := w.load(va+x.va, x.size, 0); v != x.v || c != api.NoCause {
			t.Errorf("Load(%x, %d): %x, %d", x.va, x.size, v, c)
		}
		if v, c := w.swap(va+x.va, x.size, nil, 0); v != x.v || c != api.NoCause {
			t.Errorf("Swap(%x, %d): %x, %d", x.va, x.size, v, c)
		}
	}
	if v, c := w.fetch(va+0xffc, 0); v != 0xffeeddcc || c != api.NoCause {
		t.Errorf("Fetch: %x, %d", v, c)
	}
	w.store(va+0xff2, 2, 0xabcdef, 0)
	w.store(va+0xff7, 1, 0x1ff, 0)
	w.store(va+0xffc, 4, 0xffffffff00000000, 0)
	w.store(va+0x008, 8, 0x0102030405060708, 0)
	for at, v := range map[uint64]uint64{0x4ff0: 0xff776655cdef2211, 0x4ff8: 0xbbaa9988, 0x4008: 0x0102030405060708, 0x4000: 0, 0x4010: 0} {
		if is, _ := w.m.Load(at, 8); is != v {
			t.Errorf("%x stands at %x, not %x", is, at, v)
		}
	}
	w.sameMemory()
}

// P12.2: sizes that are none: Align, ahead of all else, and nothing is filled in.
func TestNoSizes(t *testing.T) {
	w := road(t, 0x5000, 0, word(fUser, 0, 4))
	places := append(notCanonical(), addresses...)
	for _, va := range append(places, 0x5000, 0x5001, 0x5008, 0x5ff8, 1, 3, 5, 7, 1<<38+1, all) {
		for _, size := range noSizes {
			w.ends(va, size, 0, []api.Cause{0, 4, 6})
		}
	}
	if n := w.b.Len(); n != 0 {
		t.Errorf("%d entries", n)
	}
	w.sameMemory()
}

// P12.2: addresses that aren't at a multiple of the size: Align, whether they are canonical
// or not, in the tables or not; nothing is filled in.
func TestAlign(t *testing.T) {
	for _, va := range append(notCanonical(), addresses...) {
		w := road(t, va, 0, word(fUser, 0, 4))
		for _, size := range sizes {
			for more := range uint64(8) {
				if more%uint64(size) == 0 {
					continue
				}
				w.ends(va+more, size, 0, []api.Cause{0, 4, 6})
			}
		}
		for _, more := range []uint64{1, 2, 3, 5, 6, 7} {
			if _, c := w.fetch(va+more, 0); c != api.FetchAlign {
				t.Errorf("Fetch(%x): %d", va+more, c)
			}
		}
	}
	w := road(t, 0x5000, 0, word(fUser, 0, 4))
	for _, va := range []uint64{0x5001, 0x5002, 0x5003, 0x5005, 0x5ffe} {
		w.fetch(va, 0)
	}
	w.load(0x5004, 8, 0)
	w.store(0x5ffa, 4, 1, 0)
	w.swap(0x5001, 2, nil, 0)
	if n := w.b.Len(); n != 0 {
		t.Errorf("%d entries", n)
	}
}

// P12.2: addresses that aren't canonical: Page, whatever the tables and the buffer have,
// ahead of a root that isn't in the memory; nothing is filled in.
func TestNotCanonical(t *testing.T) {
	for _, va := range notCanonical() {
		w := road(t, va, 0, word(fUser, 0, 4))
		w.ends(va, 4, 0, pages)
		w.ends(va, 8, 0, pages)
		w.setSatp(on + 8)
		w.ends(va, 4, 0, pages)
		w.setSatp(8)
		w.ends(va, 4, 0, pages)
		if n := w.b.Len(); n != 0 {
			t.Fatalf("%x: %d entries", va, n)
		}
		// An entry that matches by its Vpn, of a page that is there or not.
		for _, ppn := range []uint64{4, 8} {
			w.fill(va, 0, api.Leaf{Pte: of(word(fAll, 0, ppn))}, 0)
			w.ends(va, 1, 0, pages)
			w.ends(va, 4, 0, pages)
			w.ends(va+1, 4, 0, aligns)
		}
		w.sameMemory()
	}
}

// P12.2: pages of each level: the whole page stands where its leaf says, beside it nothing.
func TestLevels(t *testing.T) {
	for _, va := range addresses {
		for level := range 3 {
			n := 4096 * frames(level)
			ppn := []uint64{4, 512 * 5, 512 * 512 * 3}[level]
			w := road(t, va, level, word(fUser, 0, ppn))
			first := va / n * n
			for _, in := range []uint64{0, 8, 0xff8, n/2 - 8, n / 2, n - 0x1000, n - 8} {
				w.ends(first+in, 4, 0, none)
				w.store(first+in, 8, in+0x1234567, 0)
				if v, e := w.m.Load(4096*ppn+in, 8); v != in+0x1234567 || e != api.OK {
					t.Errorf("%x of level %d: %x, %v", first+in, level, v, e)
				}
				if v, c := w.fetch(first+in, 0); v != in+0x1234567 || c != api.NoCause {
					t.Errorf("%x of level %d: %x, %d", first+in, level, v, c)
				}
				if got := w.b.List(); len(got) != 1 || got[0].Leaf.Level != level || got[0].Page != va<<25>>25>>12>>(9*level) {
					t.Errorf("%x of level %d: %+v", first+in, level, got)
				}
			}
			w.ends(first-8, 4, 0, pages)
			w.ends(first+n, 4, 0, pages)
		}
	}
}

// P12.2: what the tables haven't: Page, and nothing is filled in.
func TestNotInTables(t *testing.T) {
	for _, va := range addresses {
		for level := range 3 {
			for _, v := range []uint64{
				0, word(fAll-fV, 0, 0), word(fV+fW, 0, 0), word(fV+fW+fX+fU+fA+fD, 0, 0), // not right
				1<<54 + word(fUser, 0, 0), 1<<63 + word(fUser, 0, 0), // bits that may not be
				word(fV+fU, 0, 5), word(fV+fA, 0, 5), word(fV+fD, 0, 5), // neither leaf nor table
			} {
				w := road(t, va, level, v)
				w.ends(va, 4, 0, pages)
				if n := w.b.Len(); n != 0 {
					t.Fatalf("%x, %x: %d entries", va, v, n)
				}
			}
			for _, ppn := range []uint64{1, 4, 511, frames(level) - 1, frames(level) + 1, frames(level) / 2} {
				if ppn%frames(level) != 0 {
					w := road(t, va, level, word(fUser, 0, ppn)) // no multiple
					w.ends(va, 4, 0, pages)
					if n := w.b.Len(); n != 0 {
						t.Fatalf("%x, %x: %d entries", va, ppn, n)
					}
				}
			}
		}
		w := road(t, va, 0, word(fV, 0, 5)) // no leaf at level 0
		w.ends(va, 4, 0, pages)
		w.setSatp(1) // not On
		w.put(3, va, 0, word(fUser, 0, 4))
		w.ends(va, 4, 0, pages)
		if n := w.b.Len(); n != 0 {
			t.Fatalf("%x: %d entries", va, n)
		}
	}
}

// P12.2: tables that aren't in the memory: Bound, and nothing is filled in.
func TestTablesBeyond(t *testing.T) {
	for _, va := range addresses {
		for level := 1; level < 3; level++ {
			for _, ppn := range []uint64{api.MostFrames, api.MostFrames + 1, 1 << 32, 1<<32 + 2, mostPpn} {
				w := road(t, va, level, word(fV, 0, ppn))
				w.ends(va, 4, 0, bounds)
				if n := w.b.Len(); n != 0 {
					t.Fatalf("%x, %x: %d entries", va, ppn, n)
				}
			}
		}
		w := road(t, va, 0, word(fUser, 0, 4))
		for _, ppn := range []uint64{8, 9, 1 << 20, 1 << 32, 1<<32 + 1, mostPpn} {
			w.setSatp(on + ppn)
			w.ends(va, 4, 0, bounds)
			w.setSatp(ppn)
			w.ends(va, 4, 0, pages)
		}
		if n := w.b.Len(); n != 0 {
			t.Fatalf("%x: %d entries", va, n)
		}
		w.sameMemory()
	}
}

// P12.2: a leaf whose page isn't in the memory: Bound, though Page, if it isn't allowed;
// the leaf is in the buffer even so. Nothing is laid.
func TestPageBeyond(t *testing.T) {
	for _, va := range addresses {
		for _, ppn := range []uint64{8, 9, 16, 1 << 20, 1 << 32, 1<<32 + 4, 1 << 43, mostPpn} {
			w := road(t, va, 0, word(fUser, 0, ppn))
			for _, size := range sizes {
				w.ends(va, size, 0, bounds)
			}
			if n := w.b.Len(); n != 1 {
				t.Fatalf("%x, %x: %d entries", va, ppn, n)
			}
			w.setMode(kernel)
			w.ends(va, 4, 0, pages)
			w.setMode(api.Mode{Sum: true})
			w.ends(va, 4, 0, []api.Cause{12, 5, 7})
			w.sameMemory()
		}
		// The last frame is still one.
		w := road(t, va, 0, word(fUser, 0, 7))
		w.ends(va, 4, 0, none)
		w.sameMemory()
	}
}

// P12.2: great pages of which but a part is in the memory: that part is there.
func TestPartBeyond(t *testing.T) {
	w := newWorld(t, 520, 1, 8)
	w.put(1, 0, 2, word(fV, 0, 2))
	w.put(1, 3*gib1, 2, word(fUser, 0, 0))
	w.put(1, 4*gib1, 2, word(fUser, 0, 512*512))
	w.put(2, 5*mib2, 1, word(fUser, 0, 512))
	w.put(2, 6*mib2, 1, word(fUser, 0, 1024))
	w.setSatp(on + 1)
	w.setMode(user)
	for _, x := range []struct {
		va     uint64
		causes []api.Cause
	}{
		{5 * mib2, none}, {5*mib2 + 8*kib4 - 4, none}, {5*mib2 + 8*kib4, bounds}, {6*mib2 - 4, bounds},
		{6 * mib2, bounds}, {6*mib2 + 4, bounds},
		{3*gib1 + 100*kib4, none}, {3*gib1 + 520*kib4 - 4, none}, {3*gib1 + 520*kib4, bounds}, {4*gib1 - 4, bounds},
		{4 * gib1, bounds}, {5*gib1 - 4, bounds},
	} {
		w.ends(x.va, 4, 0, x.causes)
	}
	w.sameMemory()
}

// P12.2: every setting of a leaf's flags at each level, in every mode, from the tables and
// from the buffer: a leaf that was found is in the buffer, allowed or not.
func TestFlags(t *testing.T) {
	const va = 0x3f81345678
	for level := range 3 {
		for flags := range uint64(256) {
			w := road(t, va, level, word(flags, 2, frames(level)*3))
			leaf := flags&fV != 0 && flags&(fR+fX) != 0 && flags&(fR+fW) != fW
			for _, o := range modes() {
				w.setMode(o)
				p := of(flags)
				causes := slices.Clone(pages)
				for i, a := range accesses {
					if leaf && allowed(p, a, o) {
						causes[i] = api.NoCause
					}
				}
				if flags != fV && flags != fV+fG || level == 0 {
					w.ends(va, 4, 0, causes)
					w.ends(va, 4, 0, causes)
				}
				if n := w.b.Len(); leaf != (n == 1) {
					t.Fatalf("flags %x: %d entries", flags, n)
				}
				w.fence(nil, nil)
			}
		}
	}
}

// P12.2: some of the checks, written out.
func TestChecks(t *testing.T) {
	sum, mxr := api.Mode{Sum: true}, api.Mode{User: true, Mxr: true}
	for _, x := range []struct {
		flags uint64
		o     api.Mode
		c     []api.Cause
	}{
		{fUser, user, none}, {fUser, kernel, pages}, {fUser, sum, []api.Cause{12, -1, -1}},
		{fKernel, user, pages}, {fKernel, kernel, none}, {fKernel, sum, none},
		{fUser - fA, user, pages}, {fUser - fD, user, []api.Cause{-1, -1, 15}}, {fUser - fA - fD, user, pages},
		{fKernel - fA, kernel, pages}, {fKernel - fD, kernel, []api.Cause{-1, -1, 15}},
		{fUser - fX, user, []api.Cause{12, -1, -1}}, {fUser - fW, user, []api.Cause{-1, -1, 15}},
		{fUser - fR - fW, user, []api.Cause{-1, 13, 15}}, {fUser - fR - fW, mxr, []api.Cause{-1, -1, 15}},
		{fKernel - fR - fW, api.Mode{Mxr: true}, []api.Cause{-1, -1, 15}},
		{fUser - fR - fW, api.Mode{Sum: true, Mxr: true}, []api.Cause{12, -1, 15}},
		{fAll, user, none}, {fAll, kernel, pages},
	} {
		for level := range 3 {
			w := road(t, api.SharedBase, level, word(x.flags, 0, frames(level)*3))
			w.setMode(x.o)
			w.ends(api.SharedBase, 4, 0, x.c)
			if n := w.b.Len(); n != 1 {
				t.Errorf("flags %x, mode %+v: %d entries", x.flags, x.o, n)
			}
		}
	}
}

// P12.2: each kind of access alone fills in what it found, allowed or not, and in a new
// buffer; and what it didn't find it doesn't.
func TestFillByEach(t *testing.T) {
	const va = api.CodeBase
	for _, x := range []struct {
		flags uint64
		n     int
	}{{fUser, 1}, {fKernel, 1}, {fV + fR, 1}, {fV + fX + fU, 1}, {fV + fR + fW + fG, 1}, {fV, 0}, {fV + fW + fU + fA + fD, 0}, {fUser - fV, 0}} {
		for i, try := range []func(w *world){
			func(w *world) { w.fetch(va, 0) },
			func(w *world) { w.load(va, 1, 0) },
			func(w *world) { w.store(va, 2, 1, 0) },
			func(w *world) { w.swap(va, 8, nil, 0) },
			func(w *world) { w.swap(va, 8, func(v uint64) uint64 { return v + 1 }, 0) },
		} {
			w := road(t, va, 0, word(x.flags, 0, 4))
			w.setSatp(on + 5<<44 + 1)
			try(w)
			should := []api.Slot{{Asid: 5, Page: va >> 12, Leaf: api.Leaf{Pte: of(word(x.flags, 0, 4)), At: 3*4096 + 8*(va>>12)}}}
			if is := w.b.List(); !slices.Equal(is, should[:x.n]) {
				t.Errorf("flags %x, call %d: %+v", x.flags, i, is)
			}
			w.sameMemory()
		}
	}
}

// P12.2: what the buffer has is used though the tables have changed, and after Fence no more.
func TestTablesChange(t *testing.T) {
	const va = api.SharedBase + 0x3000
	for level := range 3 {
		n := frames(level)
		here, there := []uint64{5, 3 * n, 3 * n}[level], []uint64{6, 2 * n, 2 * n}[level]
		w := road(t, va, level, word(fUser, 0, here))
		w.poke(here*4096+va%(n*4096), 0x1234)
		w.poke(there*4096+va%(n*4096), 0x5678)
		is := func(v uint64, causes []api.Cause) {
			t.Helper()
			for range 2 {
				if got, c := w.load(va, 4, 0); got != v || c != causes[1] {
					t.Fatalf("level %d: %x, %d, not %x, %d", level, got, c, v, causes[1])
				}
			}
			_, f := w.fetch(va, 0)
			_, s := w.swap(va, 8, nil, 0)
			if f != causes[0] || s != causes[2] {
				t.Fatalf("level %d: %d, %d, not %d", level, f, s, causes)
			}
		}
		before, causes := uint64(0x1234), none
		is(before, causes)
		for _, x := range []struct {
			v, now uint64
			causes []api.Cause
		}{
			{word(fUser, 0, there), 0x5678, none},
			{word(fKernel, 0, there), 0, pages},
			{word(fUser-fR-fW, 0, here), 0, []api.Cause{-1, 13, 15}},
			{word(fUser, 1, mostPpn/n*n), 0, bounds},
			{word(fUser, 0, here), 0x1234, none},
		} {
			w.put(uint64(3-level), va, level, x.v)
			is(before, causes)
			w.put(1, va, 2, 0)
			is(before, causes)
			w.put(1, va, 2, word(fV, 0, 2))
			w.put(uint64(3-level), va, level, x.v)
			if w.fence([]uint64{va}, nil) != 1 {
				t.Fatal("nothing went")
			}
			before, causes = x.now, x.causes
			is(before, causes)
		}
		w.put(uint64(3-level), va, level, 0)
		w.fence(nil, nil)
		is(0, pages)
		w.put(uint64(3-level), va, level, word(fUser, 0, here)) // what wasn't found isn't kept
		is(0x1234, none)
	}
}

// P12.2: an entry that the buffer has and that isn't allowed is Page, though the tables
// would lead to one that is; and one beyond the memory Bound.
func TestBufferFirst(t *testing.T) {
	const va = 0x7000
	w := road(t, va, 0, word(fUser, 0, 4))
	for _, x := range []struct {
		flags, ppn uint64
		causes     []api.Cause
	}{
		{fKernel, 4, pages}, {fUser - fA, 4, pages}, {fUser - fD, 4, []api.Cause{-1, -1, 15}}, {fUser, 5, none}, {fUser, 8, bounds},
		{fUser - fV, 4, pages}, {fUser - fR, 4, pages}, {fUser - fR - fW - fX, 4, pages}, {0, 0, pages},
	} {
		w.fill(va, 0, api.Leaf{Pte: of(word(x.flags, 0, x.ppn)), At: 0x3038}, 0)
		w.ends(va, 4, 0, x.causes)
		w.fence(nil, nil)
	}
	// An entry of a great page ahead of one of the tables; its number needn't be a multiple.
	w.poke(0x6000, 0x6006)
	w.fill(va, 0, api.Leaf{Pte: of(word(fUser, 0, 0)), Level: 1}, 0)
	if v, _ := w.load(0x6000, 8, 0); v != 0x6006 || w.b.Len() != 1 {
		t.Errorf("%x by %d entries", v, w.b.Len())
	}
	w.fence(nil, nil)
	w.fill(va, 0, api.Leaf{Pte: of(word(fUser, 0, 3)), Level: 1}, 0)
	w.ends(0x6000, 8, 0, none)
	w.sameMemory()
}

// P12.2: the satp's asid: entries of another space aren't used, global ones are; each is
// filled in for the satp's own.
func TestAsid(t *testing.T) {
	const va, shared = 0x5000, 0x6000
	w := newWorld(t, 16, 1, 8)
	for _, r := range []uint64{1, 5} {
		w.put(r, 0, 2, word(fV, 0, r+1))
		w.put(r+1, 0, 1, word(fV, 0, r+2))
		w.put(r+2, va, 0, word(fUser, 0, r+8))
		w.put(r+2, shared, 0, word(fAll, 0, r+9))
		w.poke((r+8)*4096, r)
		w.poke((r+9)*4096, 100+r)
	}
	w.setMode(user)
	is := func(satp, at, v uint64, n int) {
		t.Helper()
		w.setSatp(satp)
		if got, c := w.load(at, 8, 0); got != v || c != api.NoCause || w.b.Len() != n {
			t.Errorf("%x by %x: %x, %d, %d entries; not %x, %d", at, satp, got, c, w.b.Len(), v, n)
		}
	}
	const a, b = 1 << 44, 0xffff << 44
	is(on+a+1, va, 1, 1)
	is(on+b+5, va, 5, 2)
	is(on+a+5, va, 1, 2) // of the buffer, though its root is another one
	is(on+b+1, va, 5, 2)
	is(on+1, va, 1, 3)
	is(on+2*a+5, va, 5, 4)
	is(on+b+5, shared, 105, 5)
	is(on+a+1, shared, 105, 5) // a global one is all spaces'
	is(on+1, shared, 105, 5)
	is(a, shared, 105, 5) // and one's whose satp isn't On
	asids := []int{}
	for _, s := range w.b.List() {
		asids = append(asids, s.Asid)
	}
	if !slices.Equal(asids, []int{1, 65535, 0, 2, 65535}) {
		t.Errorf("of the spaces %d", asids)
	}
	if w.fence(nil, []int{1}) != 1 || w.fence([]uint64{va}, []int{65535}) != 1 || w.fence([]uint64{shared}, []int{65535}) != 0 {
		t.Errorf("the wrong entries went")
	}
	is(on+a+5, va, 5, 4)
	w.fence([]uint64{shared}, nil)
	is(on+a+1, shared, 101, 4)
	w.sameMemory()
}

// P12.2: what is found goes where the pick says, when its set is full: that of each call.
func TestPick(t *testing.T) {
	const pages = 300
	picks := []int{
		0, 1, 2, 3, 4, 5, 7, 8, 100, -1, -2, -3, -4, -5, -100, 1 << 32, 1<<32 + 3, -1 << 32, 2 - 1<<32,
		math.MaxInt, math.MaxInt - 1, math.MaxInt - 2, math.MinInt, math.MinInt + 1, math.MinInt + 2,
	}
	for ways := 1; ways <= 8; ways++ {
		w := newWorld(t, 8, 2, ways)
		w.put(1, 0, 2, word(fV, 0, 2))
		w.put(2, 0, 1, word(fV, 0, 3))
		for i := range uint64(pages) {
			w.put(3, i*kib4, 0, word(fUser, 0, 4+i%4))
		}
		w.setSatp(on + 1)
		w.setMode(user)
		page := uint64(0)
		for w.b.Len() < 2*ways {
			w.load(page*kib4, 8, 0)
			page++
		}
		for _, pick := range picks {
			way := pick
			if pick < 0 {
				way = -1 - pick
			}
			for _, try := range []func(){
				func() { w.fetch(page*kib4, pick) },
				func() { w.load(page*kib4, 1, pick) },
				func() { w.store(page*kib4, 4, 1, pick) },
				func() { w.swap(page*kib4, 8, nil, pick) },
			} {
				try()
				slot := api.Slot{Set: int(page % 2), Way: way % ways, Page: page, Leaf: api.Leaf{Pte: of(word(fUser, 0, 4+page%4)), At: 0x3000 + 8*page}}
				if is := w.b.List(); !slices.Contains(is, slot) {
					t.Fatalf("%d ways, pick %d: %+v isn't in %+v", ways, pick, slot, is)
				}
				page++
			}
		}
	}
}

// P12.2: Store lays the lowest bytes of v, and nothing beside them.
func TestStoreBeside(t *testing.T) {
	const va = 0xffffffc000403000
	for _, size := range sizes {
		for _, v := range []uint64{0, 1, 0x8877665544332211, 0x80, 0x8000, 0x80000000, 1 << 63, all, all - 0xff, all - 0xffff, all - 0xffffffff} {
			for _, in := range []uint64{0, 8, 0x7f8, 0x800, 0x1000 - 8} {
				w := road(t, va, 0, word(fUser, 0, 4))
				for at := uint64(0x3ff8); at <= 0x5000; at += 8 {
					if at != 3*4096+number(va, 0)*8 {
						w.poke(at, 0xa5a5a5a5a5a5a5a5)
					}
				}
				for more := uint64(0); more < 8; more += uint64(size) {
					w.store(va+in+more, size, v, 0)
					if is, c := w.load(va+in+more, size, 0); is != v<<(64-8*size)>>(64-8*size) || c != api.NoCause {
						t.Errorf("Store(%x, %d, %x): %x, %d", va+in+more, size, v, is, c)
					}
					w.sameMemory()
				}
			}
		}
	}
}

// P12.2: Swap answers the word that was there, hands it to turn, and lays what that makes
// of it, cut to the size.
func TestSwap(t *testing.T) {
	const va = api.PrivateBase + 0x2000
	w := road(t, va, 0, word(fUser, 0, 4))
	turns := []func(uint64) uint64{
		nil,
		func(v uint64) uint64 { return v },
		func(v uint64) uint64 { return v + 1 },
		func(v uint64) uint64 { return v - 1 },
		func(v uint64) uint64 { return ^v },
		func(v uint64) uint64 { return v * 0x0101010101010101 },
		func(uint64) uint64 { return 0 },
		func(uint64) uint64 { return all },
		func(uint64) uint64 { return 0x1122334455667788 },
	}
	for _, size := range sizes {
		for _, in := range []uint64{0, 8, 0x800, 0x1000 - 8, 0x1000 - uint64(size)} {
			for _, v := range []uint64{0, 0x8182838485868788, all, 0x0001000200030004} {
				for _, turn := range turns {
					w.store(va+in/8*8, 8, v, 0)
					w.swap(va+in, size, turn, 0)
				}
			}
		}
	}
	w.sameMemory()
	w.store(va, 8, 0x01020304050607ff, 0)
	if v, c := w.swap(va, 1, func(v uint64) uint64 { return v + 2 }, 0); v != 0xff || c != api.NoCause {
		t.Errorf("Swap: %x, %d", v, c)
	}
	if v, c := w.swap(va+4, 4, func(v uint64) uint64 { return v<<8 | 5 }, 0); v != 0x01020304 || c != api.NoCause {
		t.Errorf("Swap: %x, %d", v, c)
	}
	if v, _ := w.load(va, 8, 0); v != 0x0203040505060701 {
		t.Errorf("%x", v)
	}
}

// P12.2: turn isn't asked beside a trap's cause, and nothing is laid.
func TestSwapTraps(t *testing.T) {
	asked := 0
	turn := func(v uint64) uint64 { asked++; return ^v }
	for _, x := range []struct {
		va   uint64
		size int
		mode api.Mode
		c    api.Cause
	}{
		{0x5001, 2, user, api.StoreAlign}, {0x5000, 3, user, api.StoreAlign}, {0x5004, 8, user, api.StoreAlign}, {0x5000, 0, user, api.StoreAlign},
		{0x5000 + 1<<38, 8, user, api.StorePage}, {0x6000, 8, user, api.StorePage}, {0x5000, 8, kernel, api.StorePage},
		{0x7000, 8, user, api.StoreBound}, {0x8000, 1, user, api.StorePage},
	} {
		w := road(t, 0x5000, 0, word(fUser, 0, 4))
		w.put(3, 0x7000, 0, word(fUser, 0, 8))
		w.put(3, 0x8000, 0, word(fUser-fW, 0, 4))
		w.poke(0x4000, 0x1234)
		w.setMode(x.mode)
		if v, c := w.u.Swap(x.va, x.size, turn, 0); v != 0 || c != x.c || asked != 0 {
			t.Errorf("Swap(%x, %d): %x, %d, asked %d times", x.va, x.size, v, c, asked)
		}
		if v, c := w.u.Swap(x.va, x.size, nil, 0); v != 0 || c != x.c {
			t.Errorf("Swap(%x, %d): %x, %d", x.va, x.size, v, c)
		}
		w.sameMemory()
	}
}

// P12.2: no call panics: a turn that does makes nothing of the word, which stays as it was.
func TestSwapPanics(t *testing.T) {
	const va = 0x5000
	var m map[int]int
	for i, turn := range []func(uint64) uint64{
		func(uint64) uint64 { panic("no turn") },
		func(uint64) uint64 { panic(nil) },
		func(v uint64) uint64 { return 1 / (v - v) },
		func(v uint64) uint64 { m[0] = 1; return 7 },
		func(v uint64) uint64 { return []uint64{1}[v] },
	} {
		w := road(t, va, 0, word(fUser, 0, 4))
		w.poke(0x4008, 0x1234)
		if v, c := w.u.Swap(va+8, 4, turn, 0); v != 0x1234 || c != api.NoCause {
			t.Errorf("turn %d: %x, %d", i, v, c)
		}
		w.sameMemory()
		if v, c := w.u.Load(va+8, 8, 0); v != 0x1234 || c != api.NoCause {
			t.Errorf("turn %d: %x, %d", i, v, c)
		}
	}
}

// P12.2: a turn that goes over the unit itself: what it makes is laid behind what it does,
// where the address led ahead of it.
func TestSwapInTurn(t *testing.T) {
	const va = 0x5000
	w := road(t, va, 0, word(fUser, 0, 4))
	w.poke(0x4000, 100)
	v, c := w.u.Swap(va, 8, func(old uint64) uint64 {
		w.u.Store(va, 8, 1, 0)
		w.u.Store(va+8, 8, old+1, 0)
		now, _ := w.u.Load(va, 8, 0)
		w.put(3, va, 0, word(fUser, 0, 5))
		w.u.Fence(nil, nil)
		w.u.SetMode(kernel)
		return old + 10*now
	}, 0)
	if v != 100 || c != api.NoCause || w.b.Len() != 0 { // what went in turn isn't found again
		t.Errorf("Swap: %x, %d; %d entries", v, c, w.b.Len())
	}
	for at, v := range map[uint64]uint64{0x4000: 110, 0x4008: 101, 0x5000: 0, 0x5008: 0} {
		if is, _ := w.m.Load(at, 8); is != v {
			t.Errorf("%x stands at %x", is, at)
		}
	}
}

// P12.2: Fence is layer 11's: of all, of an address, of a space, of both, and of lists of
// more; the lists stay as they are.
func TestFence(t *testing.T) {
	for _, x := range []struct {
		va   []uint64
		asid []int
		n    int
	}{
		{nil, nil, 16}, {[]uint64{}, []int{}, 16}, {[]uint64{0x1fff}, nil, 4}, {[]uint64{0x2000}, nil, 4}, {[]uint64{0x5000}, nil, 0},
		{nil, []int{1}, 4}, {nil, []int{2}, 4}, {nil, []int{9}, 0}, {nil, []int{3}, 0}, {nil, []int{-1}, 0}, {nil, []int{math.MinInt}, 0},
		{[]uint64{0x2000}, []int{1}, 1}, {[]uint64{0x2000}, []int{9}, 0}, {[]uint64{0x5000}, []int{1}, 0}, {[]uint64{0x2000 + 1<<39}, nil, 4},
		{[]uint64{0x2000, 0x3000}, nil, 4}, {nil, []int{2, 1, 9}, 4}, {[]uint64{0x2000, 0x3000}, []int{2, 1}, 1}, {[]uint64{all}, []int{math.MaxInt}, 0},
	} {
		w := newWorld(t, 4, 4, 4)
		for page := range uint64(4) {
			for asid := range 3 {
				w.fill((1+page)*kib4, asid, api.Leaf{Pte: of(word(fUser, 0, page))}, 0)
			}
			w.fill((1+page)*kib4, 9, api.Leaf{Pte: of(word(fAll, 0, page))}, 0)
		}
		w.same()
		va, asid := slices.Clone(x.va), slices.Clone(x.asid)
		if n := w.fence(x.va, x.asid); n != x.n || w.b.Len() != 16-n {
			t.Errorf("Fence(%x, %d): %d go, %d are left", va, asid, n, w.b.Len())
		}
		if !slices.Equal(va, x.va) || !slices.Equal(asid, x.asid) {
			t.Errorf("Fence(%x, %d) made them %x, %d", va, asid, x.va, x.asid)
		}
	}
}

// P12.1, P12.2: two units over one memory and one buffer see the same; each has its own
// satp and mode.
func TestTwoOfOne(t *testing.T) {
	const va = 0x5000
	w := road(t, va, 0, word(fUser, 0, 4))
	o := mmu.New(w.m, w.b)
	if s := o.Satp(); s != (api.Satp{}) {
		t.Errorf("Satp: %+v", s)
	}
	w.store(va, 8, 0x1234, 0)
	o.SetMode(user)
	w.put(1, va, 2, 0)
	if v, c := o.Load(va, 8, 0); v != 0x1234 || c != api.NoCause { // by the buffer alone
		t.Errorf("%x, %d", v, c)
	}
	if o.Store(va+8, 4, 0x5678, 0) != api.NoCause {
		t.Error("no store")
	}
	w.lay(0x4008, 4, 0x5678)
	if v, c := w.load(va+8, 8, 0); v != 0x5678 || c != api.NoCause {
		t.Errorf("%x, %d", v, c)
	}
	o.SetSatp(on + 3<<44 + 2)
	o.SetMode(kernel)
	w.same()
	if s := o.Satp(); s != (api.Satp{On: true, Asid: 3, Ppn: 2}) {
		t.Errorf("Satp: %+v", s)
	}
	if v, c := w.load(va, 8, 0); v != 0x1234 || c != api.NoCause {
		t.Errorf("%x, %d", v, c)
	}
	if o.Fence(nil, nil) != 1 || w.b.Len() != 0 {
		t.Error("no fence")
	}
	w.buffer.Fence(nil, nil)
	if _, c := w.load(va, 8, 0); c != api.LoadPage {
		t.Errorf("%d", c)
	}
}

// P12.1, P12.2: two units over their own memories and buffers are apart.
func TestTwoApart(t *testing.T) {
	const va = 0x5000
	a, b := road(t, va, 0, word(fUser, 0, 4)), road(t, va, 0, word(fUser, 0, 5))
	for i := range uint64(50) {
		a.store(va+8*i, 8, i, 0)
		b.load(va+8*i, 8, 0)
		b.swap(va+16*i, 4, func(v uint64) uint64 { return v + 3*i }, 0)
		a.load(va+16*i, 4, 0)
		switch i % 5 {
		case 1:
			a.fence(nil, nil)
		case 2:
			b.setMode(kernel)
		case 3:
			b.setSatp(on + i<<44 + 1)
		case 4:
			b.setMode(user)
			b.setSatp(on + 1)
		}
	}
	a.sameMemory()
	b.sameMemory()
	if v, _ := a.load(va, 8, 0); v != 0 || a.u.Satp() != (api.Satp{On: true, Ppn: 1}) {
		t.Errorf("%x, %+v", v, a.u.Satp())
	}
}

// P12.2: a unit of the mode that was set last, whatever the buffer found in which.
func TestSetMode(t *testing.T) {
	w := road(t, 0x5000, 0, word(fUser, 0, 4))
	w.put(3, 0x6000, 0, word(fKernel, 0, 5))
	w.put(3, 0x7000, 0, word(fV+fX+fU+fA, 0, 6))
	for range 3 {
		for _, o := range modes() {
			w.setMode(o)
			for _, va := range []uint64{0x5000, 0x6000, 0x7000} {
				causes := slices.Clone(none)
				for i, a := range accesses {
					l, e := w.walk(va)
					if e != api.OK || !allowed(l.Pte, a, o) {
						causes[i] = pages[i]
					}
				}
				w.ends(va, 4, 0, causes)
			}
		}
	}
	w.sameMemory()
}

// Every call on a nil unit.
func TestNilUnit(t *testing.T) {
	var u *mmu.Unit
	for range 2 {
		for _, v := range []uint64{0, 1, on, on + 1, 9 << 60, all} {
			if u.SetSatp(v) || u.Satp() != (api.Satp{}) {
				t.Errorf("SetSatp(%x): %+v", v, u.Satp())
			}
		}
		for _, o := range modes() {
			u.SetMode(o)
		}
		asked := 0
		turn := func(v uint64) uint64 { asked++; return v }
		for _, va := range append(notCanonical(), append(addresses, 1, 2, 3, 5, all)...) {
			if v, c := u.Fetch(va, 0); v != 0 || c != api.Illegal {
				t.Errorf("Fetch(%x): %x, %d", va, v, c)
			}
			for _, size := range append(sizes, noSizes...) {
				v, l := u.Load(va, size, -1)
				s := u.Store(va, size, 1, 1)
				x, n := u.Swap(va, size, nil, math.MaxInt)
				y, f := u.Swap(va, size, turn, math.MinInt)
				if v != 0 || x != 0 || y != 0 || l != api.Illegal || s != api.Illegal || n != api.Illegal || f != api.Illegal {
					t.Errorf("%x of %d: %x, %d; %d; %x, %d; %x, %d", va, size, v, l, s, x, n, y, f)
				}
			}
		}
		if asked != 0 {
			t.Errorf("a turn was asked %d times", asked)
		}
		for _, asid := range [][]int{nil, {}, {0}, {1, 2}} {
			for _, va := range [][]uint64{nil, {}, {0}, {all, 1}} {
				if n := u.Fence(va, asid); n != 0 {
					t.Errorf("Fence: %d", n)
				}
			}
		}
	}
}

// P12.2: no call panics on what New didn't make, or over a memory and a buffer that their
// makers didn't.
func TestNotMade(t *testing.T) {
	m, _ := phys.New(2)
	b, _ := tlb.New(1, 1)
	for _, u := range []*mmu.Unit{{}, mmu.New(&phys.Memory{}, b), mmu.New(m, &tlb.Buffer{}), mmu.New(&phys.Memory{}, &tlb.Buffer{})} {
		for _, v := range []uint64{0, on, on + 1, all} {
			u.SetSatp(v)
			for _, va := range []uint64{0, 1, 1 << 38, all - 7} {
				u.Fetch(va, -1)
				u.Load(va, 8, 0)
				u.Store(va, 8, 1, 1)
				u.Swap(va, 8, nil, math.MinInt)
				u.Swap(va, 3, func(v uint64) uint64 { return v }, math.MaxInt)
			}
			u.Fence([]uint64{v}, nil)
		}
	}
}

// chance makes numbers that are alike in each run.
type chance uint64

func (c *chance) next() uint64 {
	*c = *c*6364136223846793005 + 1442695040888963407
	return uint64(*c)*0x9e3779b97f4a7c15 ^ uint64(*c)>>29
}

// below a number.
func (c *chance) below(n uint64) uint64 {
	return c.next() >> 11 % n
}

// flip: true as often as one of n.
func (c *chance) flip(n uint64) bool {
	return c.below(n) == 0
}

// numbers of an address at a level, of which the runs' tables have entries.
var numbers = []uint64{0, 1, 255, 256, 511}

// address of some kind: most are canonical and at a multiple of eight.
func (c *chance) address() uint64 {
	va := c.below(512) * 8
	if c.flip(4) {
		va = c.below(4096)
	}
	for level := range 3 {
		n := numbers[c.below(5)]
		if c.flip(2) {
			n = 0
		}
		va += n << (12 + 9*level)
	}
	if va>>38 == 1 {
		va |= 0xffffff8000000000
	}
	if c.flip(24) {
		va ^= 1 << (38 + c.below(26))
	}
	return va
}

// entry of some kind: most lead on or are leaves, the others are spoilt.
func (c *chance) entry() uint64 {
	v := word(fV, c.below(4), c.below(4))
	switch c.below(8) {
	case 0:
		v = word(c.below(256), c.below(4), c.below(2)*512)
	case 1:
		v = word(c.below(256)|fUser, c.below(4), c.below(3)<<18)
	case 2:
		v = word(c.below(256)|fV|fX|fA, c.below(4), c.below(10))
	case 3, 4, 5:
		v = word(fUser-fU*c.below(2)-fD*c.below(2), c.below(4), 4+c.below(5))
	case 6:
		v |= uint64(fG)
	}
	if c.flip(40) {
		v ^= 1 << c.below(64)
	}
	return v
}

// entries of all tables.
func (w *world) entries(c *chance) {
	for frame := range uint64(4) {
		for _, n := range numbers {
			w.poke(frame*4096+n*8, c.entry())
		}
	}
	w.poke(0, word(fV, 0, 1))
	w.poke(4096, word(fV, 0, 2))
}

// lead the unit and its tables elsewhere.
func (w *world) lead(c *chance) {
	w.t.Helper()
	switch c.below(8) {
	case 0, 1:
		w.setMode(api.Mode{User: c.flip(2), Sum: c.flip(2), Mxr: c.flip(2)})
	case 2:
		w.setSatp(c.below(16)<<60 + c.below(3)<<44 + c.below(5))
	case 3:
		w.setSatp(on + c.below(3)<<44 + c.below(9)/8*c.below(12))
	case 4:
		w.fence(nil, nil)
	case 5:
		w.fence([]uint64{c.address()}, nil)
	case 6:
		w.fence(nil, []int{int(c.below(3))})
	case 7:
		w.poke(c.below(4)*4096+numbers[c.below(5)]*8, c.entry())
	}
}

// P12.1, P12.2: long runs of all calls, in buffers of unlike shapes, against the model.
func TestMixed(t *testing.T) {
	c := chance(12)
	met := map[api.Cause]int{}
	done := [4]int{}
	finds := map[api.Errno]int{}
	for run := range 200 {
		w := newWorld(t, 9, 1<<(run%4), 1+run%5)
		w.entries(&c)
		w.setSatp(on)
		w.setMode(user)
		for range 400 {
			va, size, pick := c.address(), 1<<c.below(4), int(c.next())
			if c.flip(3) {
				va = va / 8 * 8
			}
			if c.flip(32) {
				size = int(c.below(20)) - 4
			}
			cause, call := api.NoCause, c.below(5)
			w.find = -1
			switch call {
			case 0:
				_, cause = w.fetch(va, pick)
			case 1:
				_, cause = w.load(va, size, pick)
			case 2:
				cause = w.store(va, size, c.next(), pick)
			case 3:
				more, by := c.next(), c.next()
				_, cause = w.swap(va, size, func(v uint64) uint64 { return v*by + more }, pick)
			case 4:
				w.lead(&c)
				continue
			}
			met[cause]++
			finds[w.find]++
			if cause == api.NoCause {
				done[call]++
			}
		}
		w.sameMemory()
	}
	for _, cause := range slices.Concat(pages, bounds, aligns, none) {
		if met[cause] < 100 {
			t.Errorf("%d was met %d times", cause, met[cause])
		}
	}
	for _, e := range []api.Errno{-1, api.OK, api.ErrArg, api.ErrNone, api.ErrBound} {
		if finds[e] < 100 {
			t.Errorf("the tables told %d %d times", e, finds[e])
		}
	}
	for call, n := range done {
		if n < 500 {
			t.Errorf("call %d was done %d times", call, n)
		}
	}
}
