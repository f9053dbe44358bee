package tlb_test

import (
	"fmt"
	"math"
	"slices"
	"testing"

	"runrig/api"
	"runrig/tlb"
)

const (
	kib4 = 1 << 12
	mib2 = 1 << 21
	gib1 = 1 << 30
	end  = 1 << 39 // where an address's Vpn begins again
	all  = math.MaxUint64
)

// sizes of the levels' pages.
var sizes = []uint64{kib4, mib2, gib1}

// rights are the numbers of sets that may be.
var rights = []int{1, 2, 4, 8, 16, 32, 64}

// far are numbers that are no number of sets, of ways and no level: near the ends of
// int, and such as are small ones in 8, 16, 32 or 63 bits.
var far = []int{
	-1, -2, -3, -4, -8, -64, -128, 9, 10, 65, 66, 127, 128, 129, 192, 255, 256, 257, 258, 260, 512, 1024, 4096,
	65536, 65537, 65538, 65540, -65536, math.MaxInt32, math.MaxInt32 + 1, math.MinInt32, math.MinInt32 - 1,
	1 << 32, 1<<32 + 1, 1<<32 + 2, 1<<32 + 8, -1 << 32, -1<<32 + 1, -1<<32 + 2,
	1 << 62, 1<<62 + 1, -1 << 62, math.MaxInt, math.MaxInt - 1, math.MaxInt - 7, math.MinInt, math.MinInt + 1, math.MinInt + 2, math.MinInt + 8,
}

// picks are those that a Fill may be handed, and far ones.
var picks = append([]int{0, 1, 2, 3, 4, 5, 6, 7, 8, 11, 100, 1<<20 + 5, -5, -6, -7, -9, -16, -17, -100}, far...)

// asids: spaces' numbers, and any others, as Buffer takes them as they are.
var asids = []int{0, 1, 2, 3, 65535, 65536, 65537, 1<<32 + 1, -1, -2, math.MaxInt, math.MinInt}

// leafOf a page: of these flags (V, R, W, X, U, G, A, D from the lowest bit on), and told by its number.
func leafOf(level int, flags uint8, n uint64) api.Leaf {
	f := func(i int) bool { return flags>>i&1 == 1 }
	p := api.Pte{V: f(0), R: f(1), W: f(2), X: f(3), U: f(4), G: f(5), A: f(6), D: f(7), Rsw: int(n % 4), Ppn: n}
	return api.Leaf{Pte: p, Level: level, At: 8 * n}
}

// own is a leaf of one space, shared of all.
func own(level int, n uint64) api.Leaf    { return leafOf(level, 0xdf, n) }
func shared(level int, n uint64) api.Leaf { return leafOf(level, 0xff, n) }

// numberOf an address's page, by dividing.
func numberOf(va uint64, level int) uint64 {
	return va % end / sizes[level]
}

// both is a buffer, and what it should be: what stands in each way of each set.
type both struct {
	t          *testing.T
	b          *tlb.Buffer
	sets, ways int
	slots      map[[2]int]api.Slot
}

func newBoth(t *testing.T, sets, ways int) *both {
	t.Helper()
	b, e := tlb.New(sets, ways)
	if b == nil || e != api.OK {
		t.Fatalf("New(%d, %d): %v, %v", sets, ways, b, e)
	}
	m := &both{t: t, b: b, sets: sets, ways: ways, slots: map[[2]int]api.Slot{}}
	m.same()
	return m
}

// list what should be there, set by set, way by way.
func (m *both) list() []api.Slot {
	var l []api.Slot
	for set := 0; set < m.sets; set++ {
		for way := 0; way < m.ways; way++ {
			if s, is := m.slots[[2]int{set, way}]; is {
				l = append(l, s)
			}
		}
	}
	return l
}

// same holds Len and List against what should be there.
func (m *both) same() {
	m.t.Helper()
	is, should := m.b.List(), m.list()
	if !slices.Equal(is, should) {
		m.t.Fatalf("List of %d sets, %d ways:\n%v, not\n%v", m.sets, m.ways, is, should)
	}
	if n := m.b.Len(); n != len(should) {
		m.t.Fatalf("Len: %d, not %d", n, len(should))
	}
}

// found is what should be found.
func (m *both) found(va uint64, asid int) (api.Leaf, bool) {
	for level := 0; level < 3; level++ {
		set := int(numberOf(va, level) % uint64(m.sets))
		for way := 0; way < m.ways; way++ {
			s, is := m.slots[[2]int{set, way}]
			if is && numberOf(va, s.Leaf.Level) == s.Page && (s.Asid == asid || s.Leaf.Pte.G) {
				return s.Leaf, true
			}
		}
	}
	return api.Leaf{}, false
}

// find in both.
func (m *both) find(va uint64, asid int) {
	m.t.Helper()
	should, was := m.found(va, asid)
	if l, is := m.b.Find(va, asid); l != should || is != was {
		m.t.Fatalf("Find(%x, %d): %v, %v, not %v, %v", va, asid, l, is, should, was)
	}
}

// way in which an entry should stand in its set.
func (m *both) way(set int, page uint64, asid, level, pick int) int {
	empty := -1
	for way := m.ways - 1; way >= 0; way-- {
		if _, is := m.slots[[2]int{set, way}]; !is {
			empty = way
		}
	}
	for way := 0; way < m.ways; way++ {
		s, is := m.slots[[2]int{set, way}]
		if is && s.Leaf.Level == level && s.Page == page && s.Asid == asid {
			return way
		}
	}
	if empty >= 0 {
		return empty
	}
	u := uint64(pick)
	if pick < 0 {
		u = all - u // -1 - pick
	}
	return int(u % uint64(m.ways))
}

// fill into both.
func (m *both) fill(va uint64, asid int, l api.Leaf, pick int) {
	m.t.Helper()
	should := l.Level >= 0 && l.Level <= 2
	if should {
		page := numberOf(va, l.Level)
		set := int(page % uint64(m.sets))
		way := m.way(set, page, asid, l.Level, pick)
		m.slots[[2]int{set, way}] = api.Slot{Set: set, Way: way, Asid: asid, Page: page, Leaf: l}
	}
	if is := m.b.Fill(va, asid, l, pick); is != should {
		m.t.Fatalf("Fill(%x, %d, %v, %d): %v", va, asid, l, pick, is)
	}
	m.same()
}

// fence both.
func (m *both) fence(va []uint64, asid []int) int {
	m.t.Helper()
	should := 0
	for at, s := range m.slots {
		if len(va) > 0 && numberOf(va[0], s.Leaf.Level) != s.Page {
			continue
		}
		if len(asid) > 0 && (asid[0] != s.Asid || s.Leaf.Pte.G) {
			continue
		}
		delete(m.slots, at)
		should++
	}
	if n := m.b.Fence(va, asid); n != should {
		m.t.Fatalf("Fence(%x, %d): %d, not %d", va, asid, n, should)
	}
	m.same()
	return should
}

// finds holds an answer of Find that is written out: the leaf's Ppn, 0 of none.
func (m *both) finds(va uint64, asid int, n uint64) {
	m.t.Helper()
	m.find(va, asid)
	if l, is := m.b.Find(va, asid); l.Pte.Ppn != n || is != (n > 0) {
		m.t.Errorf("Find(%x, %d): %v, %v, not that of %d", va, asid, l, is, n)
	}
}

// stands holds what List answers against Ppns that are written out, in their order.
func (m *both) stands(ppns ...uint64) {
	m.t.Helper()
	var is []uint64
	for _, s := range m.b.List() {
		is = append(is, s.Leaf.Pte.Ppn)
	}
	if !slices.Equal(is, ppns) {
		m.t.Errorf("%v stand there, not %v", is, ppns)
	}
}

// goes holds how many entries go by a Fence.
func (m *both) goes(va []uint64, asid []int, n int) {
	m.t.Helper()
	if is := m.fence(va, asid); is != n {
		m.t.Errorf("Fence(%x, %d): %d go, not %d", va, asid, is, n)
	}
}

// P11.3: the chapter's example.
func TestExample(t *testing.T) {
	m := newBoth(t, 4, 2)
	m.fill(5*mib2, 1, own(1, 7), 0)
	m.fill(6*mib2, 1, own(1, 8), 0)
	m.goes([]uint64{5*mib2 + 0x12345}, nil, 1)
	m.stands(8)
	m.finds(5*mib2, 1, 0)
}

// P11.1: New of every number of sets and ways that is small, and of far ones.
func TestNew(t *testing.T) {
	sets, ways := slices.Clone(far), slices.Clone(far)
	for n := -10; n <= 140; n++ {
		sets, ways = append(sets, n), append(ways, n)
	}
	for _, s := range sets {
		for _, w := range ways {
			b, e := tlb.New(s, w)
			should := slices.Contains(rights, s) && w >= 1 && w <= 8
			if should && (b == nil || e != api.OK || b.Len() != 0 || len(b.List()) != 0) {
				t.Fatalf("New(%d, %d): %v, %v", s, w, b, e)
			}
			if !should && (b != nil || e != api.ErrArg) {
				t.Fatalf("New(%d, %d): %v, %v", s, w, b, e)
			}
		}
	}
}

// P11.1, P11.2: a buffer has just as many sets and ways as it was told.
func TestRoom(t *testing.T) {
	for _, sets := range rights {
		for ways := 1; ways <= 8; ways++ {
			b, _ := tlb.New(sets, ways)
			for n := range sets * ways {
				if !b.Fill(uint64(n)*kib4, 1, own(0, uint64(n)+1), 0) || b.Len() != n+1 {
					t.Fatalf("%d sets, %d ways: %d behind %d", sets, ways, b.Len(), n+1)
				}
			}
			for n, s := range b.List() {
				page := n/ways + sets*(n%ways)
				if s.Set != n/ways || s.Way != n%ways || s.Page != uint64(page) || s.Leaf != own(0, uint64(page)+1) {
					t.Fatalf("%d sets, %d ways: %v at %d", sets, ways, s, n)
				}
			}
			b.Fill(uint64(sets*ways)*kib4, 1, own(0, 1), 0)
			if b.Len() != sets*ways {
				t.Fatalf("%d sets, %d ways: %d at last", sets, ways, b.Len())
			}
		}
	}
}

// P11.1: in an empty buffer nothing is found.
func TestFindInEmpty(t *testing.T) {
	for _, sets := range rights {
		m := newBoth(t, sets, 1+sets%8)
		for _, va := range []uint64{0, 1, kib4, mib2, gib1, api.CodeBase, api.SharedBase, 1<<38 - 1, 1 << 38, end, 1 << 63, all - 4095, all} {
			for _, asid := range asids {
				m.finds(va, asid, 0)
			}
		}
		m.same()
	}
}

// bases of pages, each at a multiple of the greatest page's size, and canonical.
var bases = []uint64{0, gib1, api.SharedBase, 3 * gib1, 0x2a << 30, 255 << 30, 0xffffffc000000000, 0xffffffff80000000, 0xffffffffc0000000}

// P11.1: an entry is found all over its page, and not beside it.
func TestFindPage(t *testing.T) {
	for level, size := range sizes {
		for _, base := range bases {
			for _, part := range []uint64{0, size, 511 * size, 0x155 * size, 0xaa * size} {
				va := base + part
				if level == 2 {
					va = base
				}
				for _, in := range []uint64{0, 1, size / 2, size - 1} {
					m := newBoth(t, 4, 2)
					m.fill(va+in, 1, own(level, 9), 0)
					for _, off := range []uint64{0, 1, 7, 8, 0xff8, 0xfff, size / 4, size/2 - 1, size / 2, size - 4096, size - 1} {
						m.finds(va+off, 1, 9)
					}
					for _, off := range []uint64{all, all - 4095, -size, -size / 2, -size - 1, size, size + 1, 2*size - 1, 2 * size, 4 * size, 512 * size} {
						if off := va + off; numberOf(off, level) != numberOf(va, level) {
							m.finds(off, 1, 0)
						}
					}
				}
			}
		}
	}
}

// P11.1: each bit of the page's number tells, and none below or above it.
func TestFindBits(t *testing.T) {
	for level := range sizes {
		for _, va := range []uint64{0, 0x1234567000, 0x3fffffffff, 0xffffffd2468acfff, all} {
			m := newBoth(t, 8, 2)
			m.fill(va, 3, own(level, 5), 0)
			for i := range 64 {
				n := uint64(5)
				if i >= 12+9*level && i < 39 {
					n = 0
				}
				m.finds(va^1<<i, 3, n)
			}
			m.finds(va^(all-end+1), 3, 5) // all above the Vpn
			m.finds(va^(end-1), 3, 0)
		}
	}
}

// P11.1, P11.2: what is filled in at an address whose bits differ above the Vpn is the same page.
func TestFillHighBits(t *testing.T) {
	for level := range sizes {
		m := newBoth(t, 2, 4)
		for i := 39; i < 64; i++ {
			m.fill(0x2345678abc^1<<i, 1, own(level, uint64(i)), 1)
			m.stands(uint64(i))
			m.finds(0x2345678abc, 1, uint64(i))
		}
	}
}

// P11.1: an entry is its asid's alone, a global one everybody's.
func TestFindAsid(t *testing.T) {
	for level := range sizes {
		for _, asid := range asids {
			m := newBoth(t, 2, 2)
			m.fill(gib1, asid, own(level, 3), 0)
			m.fill(2*gib1, asid, shared(level, 4), 0)
			for _, other := range asids {
				n := uint64(0)
				if other == asid {
					n = 3
				}
				m.finds(gib1, other, n)
				m.finds(2*gib1, other, 4)
				m.finds(3*gib1, other, 0)
			}
		}
	}
}

// P11.1, P11.2: leaves of all flags, V or not: G alone tells whom they are for, and they are answered as they are.
func TestFlags(t *testing.T) {
	for flags := range 256 {
		for level := range sizes {
			m := newBoth(t, 1, 3)
			l := leafOf(level, uint8(flags), 77)
			m.fill(gib1, 1, l, 0)
			other := api.Leaf{}
			if flags&0x20 != 0 {
				other = l
			}
			if is, ok := m.b.Find(gib1, 1); is != l || !ok {
				t.Errorf("%x: %v, %v", flags, is, ok)
			}
			if is, ok := m.b.Find(gib1, 2); is != other || ok != (flags&0x20 != 0) {
				t.Errorf("%x: %v, %v of another asid", flags, is, ok)
			}
			m.goes(nil, []int{1}, 1-flags>>5&1)
		}
	}
}

// P11.1, P11.2: a leaf's numbers are kept whole, however they are, the zero leaf too.
func TestLeafWhole(t *testing.T) {
	for _, l := range []api.Leaf{
		{}, {Level: 1}, {Level: 2, At: all},
		{Pte: api.Pte{V: true, Rsw: -1, Ppn: all}, At: all},
		{Pte: api.Pte{R: true, Rsw: math.MaxInt, Ppn: 1 << 44}, Level: 1, At: 3},
		{Pte: api.Pte{X: true, Rsw: math.MinInt, Ppn: 1<<63 + 1}, Level: 2, At: 1 << 63},
	} {
		m := newBoth(t, 2, 2)
		m.fill(0x5000, 1, l, 0)
		if is, ok := m.b.Find(0x5000, 1); is != l || !ok {
			t.Errorf("%v: %v, %v", l, is, ok)
		}
	}
}

// P11.1: in unlike sets level 0's entry is found first, then level 1's, then level 2's, in whatever order they came.
func TestFindLevels(t *testing.T) {
	va := uint64(2*gib1 + 1*mib2 + 7*kib4) // in sets 3, 1 and 2 of 4
	for _, order := range [][]int{{0, 1, 2}, {0, 2, 1}, {1, 0, 2}, {1, 2, 0}, {2, 0, 1}, {2, 1, 0}} {
		for ways := 1; ways <= 3; ways++ {
			m := newBoth(t, 4, ways)
			for _, level := range order {
				m.fill(va, 1, own(level, uint64(level)+10), 0)
			}
			m.stands(11, 12, 10)
			m.finds(va, 1, 10)
			m.finds(va^4*kib4, 1, 11)
			m.finds(va^4*mib2, 1, 12)
			m.finds(va^4*gib1, 1, 0)
			m.goes([]uint64{va ^ 4*mib2}, nil, 1) // level 2's
			m.finds(va, 1, 10)
			m.fill(va, 1, shared(2, 12), 0)
			m.finds(va, 2, 12)
			m.fill(va, 2, shared(1, 13), 0)
			if ways > 1 {
				m.finds(va, 3, 13)
				m.finds(va, 1, 10)
			}
		}
	}
}

// P11.1: in a set the first way is found first, whatever the levels of its entries.
func TestFindWays(t *testing.T) {
	for _, order := range [][]int{{0, 1, 2}, {0, 2, 1}, {1, 0, 2}, {1, 2, 0}, {2, 0, 1}, {2, 1, 0}} {
		m := newBoth(t, 1, 4)
		for _, level := range order {
			m.fill(gib1+mib2+kib4, 1, own(level, uint64(level)+10), 0)
		}
		m.finds(gib1+mib2+kib4, 1, uint64(order[0])+10)
		m.fill(gib1+mib2+kib4, 1, own(order[0], 20), 0)
		m.finds(gib1+mib2+kib4, 1, 20)
		m.fill(gib1+mib2+kib4, 2, own(0, 21), 0)
		m.finds(gib1+mib2+kib4, 2, 21)
	}
}

// P11.1: of entries of one page, a global one and the asid's own, the first way's is found.
func TestFindGlobalOrOwn(t *testing.T) {
	m := newBoth(t, 2, 4)
	m.fill(kib4, 1, own(0, 1), 0)
	m.fill(kib4, 2, shared(0, 2), 0)
	m.fill(kib4, 3, own(0, 3), 0)
	m.fill(kib4, 4, shared(0, 4), 0)
	for asid, n := range []uint64{2, 1, 2, 2, 2, 2} {
		m.finds(kib4, asid, n)
	}
	m.fence([]uint64{kib4}, []int{1})
	m.finds(kib4, 1, 2)
	m.fill(kib4, 5, own(0, 5), 0)
	for asid, n := range []uint64{2, 2, 2, 2, 2, 5} {
		m.finds(kib4, asid, n)
	}
}

// P11.1: an entry of a higher level that stands in level 0's set is found there, ahead of
// what stands in the later sets, and level 0's own behind it.
func TestFindInLowerSet(t *testing.T) {
	va := uint64(3*gib1 + 2*mib2 + 7*kib4) // in sets 3, 2 and 3 of 4
	m := newBoth(t, 4, 2)
	m.fill(va, 1, own(1, 11), 0)
	m.fill(va, 1, own(2, 12), 0)
	m.finds(va, 1, 12)
	m.fill(va, 1, own(0, 10), 0)
	m.stands(11, 12, 10)
	m.finds(va, 1, 12)
	m.goes([]uint64{va}, nil, 3)
	m.fill(va, 1, own(0, 10), 0)
	m.fill(va, 1, own(2, 12), 0)
	m.finds(va, 1, 10)
}

// P11.1: Find changes nothing.
func TestFindChangesNothing(t *testing.T) {
	m := newBoth(t, 2, 2)
	for n := range uint64(6) {
		m.fill(n*kib4, int(n%3), leafOf(0, uint8(37*n), n), int(n))
	}
	for range 3 {
		for n := range uint64(8) {
			m.find(n*kib4, int(n%4))
			m.same()
		}
	}
}

// P11.2: levels that are none are refused, and nothing has changed.
func TestFillLevels(t *testing.T) {
	m := newBoth(t, 2, 2)
	for _, filled := range []bool{false, true} {
		if filled {
			for n := range uint64(4) {
				m.fill(n*kib4, 1, shared(0, n), 0)
			}
		}
		for _, level := range append([]int{3, 4, 5, 7, 8}, far...) {
			for _, va := range []uint64{0, kib4, 3 * gib1, all} {
				for _, pick := range []int{0, 1, -1, math.MinInt} {
					l := shared(0, 99)
					l.Level = level
					if m.b.Fill(va, 1, l, pick) {
						t.Errorf("Fill of level %d", level)
					}
					m.same()
					m.find(va, 1)
				}
			}
		}
	}
}

// P11.2: the same level, page and asid again: in its own way, and nothing is there twice.
func TestFillAgain(t *testing.T) {
	for level, size := range sizes {
		for _, pick := range picks {
			m := newBoth(t, 2, 3)
			for n := range uint64(3) {
				m.fill(2*n*size, 1, own(level, n+1), 0)
			}
			m.stands(1, 2, 3)
			m.fill(2*size+size-1, 1, own(level, 12), pick)
			m.stands(1, 12, 3)
			m.fill(4*size+1, 1, shared(level, 13), pick)
			m.stands(1, 12, 13)
			m.fill(size/2, 1, leafOf(level, 0, 11), pick)
			m.stands(11, 12, 13)
			m.fill(4*size, 1, own(level, 23), pick) // over a global one
			m.stands(11, 12, 23)
		}
	}
}

// P11.2: an entry's own way comes ahead of an empty one.
func TestFillAgainBehindEmpty(t *testing.T) {
	m := newBoth(t, 1, 4)
	for n := range uint64(4) {
		m.fill(n*kib4, 1, own(0, n+1), 0)
	}
	m.goes([]uint64{0}, nil, 1)
	m.goes([]uint64{2 * kib4}, nil, 1)
	m.fill(3*kib4, 1, own(0, 14), 0)
	m.fill(kib4, 1, own(0, 12), 2)
	m.stands(12, 14)
	m.fill(4*kib4, 1, own(0, 5), 3)
	m.fill(5*kib4, 1, own(0, 6), 3)
	m.stands(5, 12, 6, 14)
}

// P11.1, P11.2, P11.3: an empty way isn't the entry of level 0, page 0 and asid 0.
func TestEmptyIsNoEntry(t *testing.T) {
	m := newBoth(t, 1, 3)
	m.fill(kib4, 0, own(0, 1), 0)
	m.fill(0, 0, own(0, 2), 0)
	m.goes([]uint64{kib4}, []int{0}, 1)
	m.finds(0, 0, 2)
	m.fill(0, 0, own(0, 12), 2)
	m.stands(12)
	m.goes([]uint64{kib4}, []int{0}, 0)
	m.goes([]uint64{0}, []int{0}, 1)
	m.finds(0, 0, 0)
	m.goes([]uint64{0}, []int{0}, 0)
	m.goes([]uint64{0}, nil, 0)
	m.goes(nil, []int{0}, 0)
}

// P11.2: the same page at another asid, or another level, is another entry beside it; whether it is global tells nothing.
func TestFillBeside(t *testing.T) {
	m := newBoth(t, 1, 8)
	m.fill(0, 1, own(0, 1), 0)
	m.fill(0, 2, own(0, 2), 0)
	m.fill(0, 1, own(1, 3), 0) // the number 0 of each
	m.fill(0, 1, own(2, 4), 0)
	m.fill(0, 3, shared(0, 5), 0)
	m.fill(0, 4, shared(0, 6), 0)
	m.fill(0, 65537, own(0, 7), 0)
	m.fill(0, -1, own(0, 8), 0)
	m.stands(1, 2, 3, 4, 5, 6, 7, 8)
	m.fill(0, 1, shared(0, 11), 0)
	m.fill(0, 4, own(0, 16), 0)
	m.fill(0, 1, own(2, 14), 0)
	m.stands(11, 2, 3, 14, 5, 16, 7, 8)
}

// P11.2: an empty way is taken whatever the pick: the first one.
func TestFillEmpty(t *testing.T) {
	for ways := 1; ways <= 8; ways++ {
		for _, pick := range picks {
			m := newBoth(t, 2, ways)
			for n := range uint64(ways) {
				m.fill((2*n+1)*kib4, 1, own(0, n), pick)
				if l := m.b.List(); l[n].Way != int(n) || l[n].Set != 1 {
					t.Errorf("%v of pick %d", l[n], pick)
				}
			}
		}
	}
}

// P11.2: behind a Fence the first way that it has emptied is taken.
func TestFillBehindFence(t *testing.T) {
	m := newBoth(t, 2, 4)
	for n := range uint64(8) {
		m.fill(n*kib4, int(n%3), own(0, n+1), 0)
	}
	m.stands(1, 3, 5, 7, 2, 4, 6, 8)
	m.goes(nil, []int{0}, 3) // 1, 4, 7
	m.stands(3, 5, 2, 6, 8)
	m.fill(20*kib4, 1, own(0, 21), 1)
	m.fill(21*kib4, 1, own(0, 22), 3)
	m.stands(21, 3, 5, 2, 22, 6, 8)
	m.fill(22*kib4, 1, own(0, 23), 1)
	m.stands(21, 3, 5, 23, 2, 22, 6, 8)
	m.fill(24*kib4, 1, own(0, 25), 1)
	m.stands(21, 25, 5, 23, 2, 22, 6, 8)
	m.goes(nil, nil, 8)
	m.fill(24*kib4, 1, own(0, 1), 3)
	if s := m.b.List(); len(s) != 1 || s[0].Set != 0 || s[0].Way != 0 {
		t.Errorf("%v", s)
	}
}

// P11.2: in a full set the pick tells which way; all others stay.
func TestFillFull(t *testing.T) {
	for _, x := range []struct{ ways, pick, way int }{
		{4, 0, 0}, {4, 1, 1}, {4, 3, 3}, {4, 4, 0}, {4, 5, 1}, {4, 7, 3}, {4, 1000002, 2}, {4, math.MaxInt, 3}, {4, math.MaxInt - 1, 2},
		{4, -1, 0}, {4, -2, 1}, {4, -4, 3}, {4, -5, 0}, {4, -6, 1}, {4, math.MinInt, 3}, {4, math.MinInt + 1, 2},
		{1, 0, 0}, {1, 5, 0}, {1, -1, 0}, {1, -7, 0}, {1, math.MaxInt, 0}, {1, math.MinInt, 0},
		{3, 2, 2}, {3, 3, 0}, {3, -3, 2}, {3, -4, 0}, {3, 1 << 32, 1}, {3, 1<<32 + 1, 2}, {3, -1 << 32, 0},
		{3, math.MaxInt, 1}, {3, math.MinInt, 1}, {3, math.MinInt + 1, 0}, // 2^63 - 1 is 1 mod 3
		{5, math.MaxInt, 2}, {5, math.MinInt, 2}, {6, math.MaxInt, 1}, {6, math.MinInt, 1}, {7, math.MaxInt, 0}, {7, math.MinInt, 0},
		{8, 7, 7}, {8, 8, 0}, {8, -8, 7}, {8, -9, 0}, {8, math.MaxInt, 7}, {8, math.MinInt, 7},
	} {
		m := newBoth(t, 2, x.ways)
		for n := range uint64(2 * x.ways) {
			m.fill(n*kib4, 1, own(0, n+1), 0)
		}
		ahead := m.b.List()
		m.fill(100*kib4, 1, own(0, 100), x.pick)
		for i, s := range m.b.List() {
			should := ahead[i]
			if i == x.way {
				should = api.Slot{Set: 0, Way: x.way, Asid: 1, Page: 100, Leaf: own(0, 100)}
			}
			if s != should {
				t.Errorf("%d ways, pick %d: %v, not %v", x.ways, x.pick, s, should)
			}
		}
		m.finds(100*kib4, 1, 100)
		m.finds(ahead[x.way].Page*kib4, 1, 0)
	}
}

// P11.2: every pick in full sets of every number of ways, against the model.
func TestFillPicks(t *testing.T) {
	for ways := 1; ways <= 8; ways++ {
		m := newBoth(t, 2, ways)
		for n := range uint64(2 * ways) {
			m.fill(n*kib4, 1, own(0, n+1), 0)
		}
		for i, pick := range picks {
			m.fill(uint64(100+i)*kib4, 1, own(0, uint64(i)+100), pick)
			m.find(uint64(100+i)*kib4, 1)
		}
	}
}

// P11.2: global entries, and such as aren't V, go by a pick as others do.
func TestFillOverAny(t *testing.T) {
	m := newBoth(t, 1, 2)
	m.fill(0, 1, shared(0, 1), 0)
	m.fill(kib4, 1, leafOf(0, 0, 2), 0)
	m.fill(2*kib4, 2, own(0, 3), 0)
	m.stands(3, 2)
	m.fill(3*kib4, 2, own(0, 4), 1)
	m.stands(3, 4)
	m.finds(0, 1, 0)
}

// P11.2: the set of an entry is that of its page's number, of its own level.
func TestFillSet(t *testing.T) {
	for _, sets := range rights {
		for level, size := range sizes {
			for _, n := range []uint64{0, 1, 2, 3, 31, 32, 33, 63, 64, 65, 127, 128, 255, 256, 300, 511} {
				m := newBoth(t, sets, 2)
				m.fill(n*size+size-1, 1, own(level, 1), 0)
				should := api.Slot{Set: int(n % uint64(sets)), Asid: 1, Page: n, Leaf: own(level, 1)}
				if s := m.b.List(); len(s) != 1 || s[0] != should {
					t.Errorf("%d sets: %v, not %v", sets, s, should)
				}
			}
		}
	}
}

// many is a buffer with entries of all levels, of asids 1 and 2, own and global.
func many(t *testing.T) *both {
	t.Helper()
	m := newBoth(t, 4, 8)
	m.fill(gib1, 1, own(0, 1), 0)
	m.fill(gib1, 1, own(1, 2), 0)
	m.fill(gib1, 1, own(2, 3), 0)
	m.fill(gib1, 2, own(0, 4), 0)
	m.fill(gib1, 2, shared(1, 5), 0)
	m.fill(gib1+kib4, 1, own(0, 6), 0)
	m.fill(gib1+kib4, 1, shared(0, 7), 0) // over the one before
	m.fill(gib1+mib2, 1, own(1, 8), 0)
	m.fill(2*gib1, 2, shared(2, 9), 0)
	m.fill(2*gib1, 3, shared(0, 10), 0)
	m.stands(1, 2, 4, 5, 10, 3, 7, 8, 9)
	return m
}

// P11.3: Fence of all, of an address, of an asid, of both: how many go, and what stays.
func TestFence(t *testing.T) {
	at := func(va uint64) []uint64 { return []uint64{va} }
	of := func(asid int) []int { return []int{asid} }
	for _, x := range []struct {
		va   []uint64
		asid []int
		stay []uint64
	}{
		{nil, nil, nil},
		{at(gib1), nil, []uint64{10, 7, 8, 9}},
		{at(gib1 + 4095), nil, []uint64{10, 7, 8, 9}},
		{at(gib1 + kib4), nil, []uint64{1, 4, 10, 8, 9}},
		{at(gib1 + 5*kib4), nil, []uint64{1, 4, 10, 7, 8, 9}},
		{at(gib1 + mib2), nil, []uint64{1, 2, 4, 5, 10, 7, 9}},
		{at(gib1 + mib2 + 3), nil, []uint64{1, 2, 4, 5, 10, 7, 9}},
		{at(gib1 + 2*mib2 - 1), nil, []uint64{1, 2, 4, 5, 10, 7, 9}},
		{at(gib1 + 2*mib2), nil, []uint64{1, 2, 4, 5, 10, 7, 8, 9}},
		{at(2*gib1 - 1), nil, []uint64{1, 2, 4, 5, 10, 7, 8, 9}},
		{at(2 * gib1), nil, []uint64{1, 2, 4, 5, 3, 7, 8}},
		{at(2*gib1 + kib4), nil, []uint64{1, 2, 4, 5, 10, 3, 7, 8}},
		{at(3*gib1 - 1), nil, []uint64{1, 2, 4, 5, 10, 3, 7, 8}},
		{at(gib1 | 1<<39), nil, []uint64{10, 7, 8, 9}},
		{at(gib1 | 1<<63), nil, []uint64{10, 7, 8, 9}},
		{nil, of(1), []uint64{4, 5, 10, 7, 9}},
		{nil, of(2), []uint64{1, 2, 5, 10, 3, 7, 8, 9}},
		{at(gib1), of(1), []uint64{4, 5, 10, 7, 8, 9}},
		{at(gib1), of(2), []uint64{1, 2, 5, 10, 3, 7, 8, 9}},
		{at(gib1 + kib4), of(1), []uint64{1, 4, 5, 10, 7, 8, 9}},
		{at(gib1 + mib2), of(1), []uint64{1, 2, 4, 5, 10, 7, 9}},
	} {
		m := many(t)
		m.goes(x.va, x.asid, 9-len(x.stay))
		m.stands(x.stay...)
		m.goes(x.va, x.asid, 0)
		m.stands(x.stay...)
	}
}

// P11.3: Fence of what isn't there lets nothing go.
func TestFenceNone(t *testing.T) {
	for _, x := range []struct {
		va   []uint64
		asid []int
	}{
		{[]uint64{0}, nil}, {[]uint64{3 * gib1}, nil}, {[]uint64{gib1 - 1}, nil}, {[]uint64{all}, nil}, {[]uint64{1 << 38}, nil},
		{nil, []int{0}}, {nil, []int{3}}, {nil, []int{-1}}, {nil, []int{65537}}, {nil, []int{1<<32 + 1}}, {nil, []int{math.MinInt}},
		{[]uint64{2 * gib1}, []int{2}}, {[]uint64{2 * gib1}, []int{3}}, {[]uint64{gib1}, []int{3}}, {[]uint64{0}, []int{1}},
		{[]uint64{gib1 + mib2}, []int{2}},
	} {
		m := many(t)
		m.goes(x.va, x.asid, 0)
		m.stands(1, 2, 4, 5, 10, 3, 7, 8, 9)
		e := newBoth(t, 4, 8)
		e.goes(x.va, x.asid, 0)
		e.goes(nil, nil, 0)
	}
}

// P11.3: of lists of more than one the first one counts; nil and empty are one; the lists stay as they are.
func TestFenceLists(t *testing.T) {
	m := many(t)
	va, asid := []uint64{gib1 + mib2, gib1, 2 * gib1}, []int{1, 2, 3}
	m.goes(va, asid, 2)
	m.stands(1, 2, 4, 5, 10, 7, 9)
	m.goes(va, nil, 0)
	m.goes(va[1:], []int{}, 4)
	m.stands(10, 7, 9)
	if !slices.Equal(va, []uint64{gib1 + mib2, gib1, 2 * gib1}) || !slices.Equal(asid, []int{1, 2, 3}) {
		t.Errorf("%v, %v", va, asid)
	}
	m = many(t)
	m.goes([]uint64{}, asid[1:], 1)
	m.stands(1, 2, 5, 10, 3, 7, 8, 9)
	m.goes(nil, []int{4, 1}, 0)
	m.goes([]uint64{0, gib1}, nil, 0)
	m.goes([]uint64{0, gib1}, []int{1, 4}, 0)
	m.goes([]uint64{gib1, 0}, []int{4, 1}, 0)
	m.goes([]uint64{}, []int{}, 8)
	m.stands()
}

// P11.3: what a Fence let go is found no longer, what stays is.
func TestFindBehindFence(t *testing.T) {
	m := many(t)
	m.finds(gib1, 1, 1)
	m.fence([]uint64{gib1 + 4*kib4}, []int{1}) // levels 1 and 2
	m.finds(gib1, 1, 1)
	m.finds(gib1+4*kib4, 1, 5) // the other one's, global
	m.fence([]uint64{gib1}, []int{1})
	m.finds(gib1, 1, 5)
	m.finds(gib1, 2, 4)
	m.fence([]uint64{gib1}, nil)
	m.finds(gib1, 1, 0)
	m.finds(gib1, 2, 0)
	m.finds(gib1+kib4, 2, 7)
	m.finds(gib1+mib2, 1, 8)
	m.fence(nil, nil)
	for va := uint64(gib1); va < gib1+4*mib2; va += kib4 {
		m.finds(va, 1, 0)
	}
}

// P11.3: what List answered isn't changed by what is done later, nor the buffer by what is done to it.
func TestListApart(t *testing.T) {
	m := many(t)
	l := m.b.List()
	was := slices.Clone(l)
	m.fill(gib1, 1, own(0, 50), 0)
	m.fill(gib1+9*kib4, 1, own(0, 51), 0)
	m.fence([]uint64{2 * gib1}, nil)
	m.fence(nil, nil)
	m.fill(3*gib1, 1, own(2, 52), 0)
	if !slices.Equal(l, was) {
		t.Errorf("%v, not %v any more", l, was)
	}
	m = many(t)
	l = m.b.List()
	other := m.b.List()
	for i := range l {
		l[i] = api.Slot{}
	}
	_ = append(l[:0], make([]api.Slot, cap(l))...)
	if !slices.Equal(other, was) {
		t.Errorf("%v: the answers share room", other)
	}
	m.same()
	for _, s := range was {
		m.find(s.Page*sizes[s.Leaf.Level], s.Asid)
	}
}

// P11.1 to P11.3: two buffers are apart.
func TestTwo(t *testing.T) {
	a, b := newBoth(t, 2, 2), newBoth(t, 2, 2)
	for n := range uint64(4) {
		a.fill(n*kib4, 1, own(0, n+1), 0)
	}
	b.same()
	b.finds(0, 1, 0)
	b.fill(0, 1, own(0, 20), 0)
	a.same()
	a.finds(0, 1, 1)
	a.goes(nil, nil, 4)
	b.stands(20)
	b.finds(0, 1, 20)
	b.goes([]uint64{0}, nil, 1)
	a.stands()
}

// P11.1 to P11.3: long mixed runs against the model, in buffers of every kind.
func TestMixed(t *testing.T) {
	for _, sets := range rights {
		for _, ways := range []int{1, 2, 3, 8} {
			t.Run(fmt.Sprint(sets, " ", ways), func(t *testing.T) {
				mixed(newBoth(t, sets, ways), chance(1000*sets+ways))
			})
		}
	}
}

// mixed calls, over so few pages that they meet.
func mixed(m *both, c chance) {
	tops := []uint64{0, 1, 2, 255, 256, 510, 511}
	address := func() uint64 {
		va := tops[c.below(len(tops))]<<30 | uint64(c.below(4))<<21 | uint64(c.below(6))<<12 | uint64(c.below(4096))
		if c.below(8) == 0 {
			va ^= uint64(c.below(1<<25)) << 39
		}
		return va
	}
	asid := func() int { return []int{0, 1, 2, 65537, -1}[c.below(5)] }
	for n := range 2500 {
		switch c.below(16) {
		case 0:
			m.fence([]uint64{address()}, nil)
		case 1:
			m.fence([]uint64{address(), address()}, []int{asid(), asid()})
		case 2:
			if c.below(8) == 0 {
				m.fence(nil, []int{asid()})
			}
		case 3:
			if c.below(40) == 0 {
				m.fence(nil, nil)
			}
		case 4, 5, 6, 7, 8:
			for range 8 {
				m.find(address(), asid())
			}
		default:
			flags := uint8(c.below(256))
			if c.below(3) > 0 {
				flags &^= 0x20
			}
			pick := c.below(9) - 4
			if c.below(4) == 0 {
				pick = picks[c.below(len(picks))]
			}
			va, id := address(), asid()
			m.fill(va, id, leafOf(c.below(3)+c.below(30)/29, flags, uint64(n)), pick)
			m.find(va, id)
		}
	}
}

// chance is a row of numbers that is the same each time.
type chance uint64

// below a bound: a number.
func (c *chance) below(n int) int {
	*c = *c*6364136223846793005 + 1442695040888963407
	return int(uint64(*c)>>33) % n
}

// P11.1: a buffer of New isn't that of an earlier one, and calls that fail leave nothing behind.
func TestNewEach(t *testing.T) {
	a := newBoth(t, 1, 1)
	a.fill(0, 1, own(0, 1), 0)
	if b, e := tlb.New(3, 1); b != nil || e != api.ErrArg {
		t.Errorf("%v, %v", b, e)
	}
	b := newBoth(t, 1, 1)
	b.finds(0, 1, 0)
	a.finds(0, 1, 1)
}

// P11.3 and the chapter's last line: a nil buffer has nothing and takes nothing; nor does one that New didn't make.
func TestNil(t *testing.T) {
	for _, b := range []*tlb.Buffer{nil, {}} {
		for range 2 {
			for _, va := range []uint64{0, kib4, 1 << 39, all} {
				for level := -1; level <= 3; level++ {
					for _, pick := range []int{0, 1, -1, math.MaxInt, math.MinInt} {
						if b.Fill(va, 1, leafOf(level, 0xff, 1), pick) {
							t.Errorf("Fill: true")
						}
					}
				}
				if l, is := b.Find(va, 1); l != (api.Leaf{}) || is {
					t.Errorf("Find: %v, %v", l, is)
				}
				if n := b.Fence([]uint64{va}, nil) + b.Fence([]uint64{va}, []int{1}) + b.Fence(nil, []int{1}) + b.Fence(nil, nil); n != 0 {
					t.Errorf("Fence: %d", n)
				}
			}
			if b.Len() != 0 || len(b.List()) != 0 {
				t.Errorf("%d, %v", b.Len(), b.List())
			}
		}
	}
}
