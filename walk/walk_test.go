package walk_test

import (
	"bytes"
	"math"
	"testing"

	"runrig/api"
	"runrig/perm"
	"runrig/phys"
	"runrig/walk"
)

const (
	all     = math.MaxUint64
	mostPpn = 1<<44 - 1
)

// An entry's flags, as numbers.
const (
	fV, fR, fW, fX = 1, 2, 4, 8
	fU, fG, fA, fD = 16, 32, 64, 128
	fAll           = 255
)

// addresses that are canonical: at the ends of both halves, such whose three numbers
// are unlike, and such as the program uses.
var addresses = []uint64{
	0, 0x7, 0xfff, 0x1000, 0x1ff8, 0x200000, 0x3fffffff, api.CodeBase, api.PrivateBase + 0x123,
	api.SharedBase, api.SharedBase + 0x2008, 0x3f81345678, 0x1ffffff000, 1<<38 - 1,
	0xffffffc000000000, 0xffffffc000403abc, 0xffffffd2468acfff, all - 4095, all,
}

// notCanonical: the words just beyond both halves, and ordinary ones with a bit above that is unlike.
func notCanonical() []uint64 {
	l := []uint64{1 << 38, 1<<38 + 1, 1<<39 - 1, 1 << 39, 1 << 40, 1<<63 - 1, 1 << 63, 0xffffff8000000000, 0xffffffbfffffffff}
	for _, va := range addresses {
		for i := 39; i < 64; i++ {
			l = append(l, va^1<<i)
		}
		l = append(l, va^1<<38)
	}
	return l
}

// noAccesses are accesses that aren't: those just outside, near the ends of int, and
// those that are one in 2, 8, 16, 32 or 63 bits.
var noAccesses = []api.Access{
	-1, -2, -3, -4, -256, -65536, 3, 4, 5, 6, 7, 8, 255, 256, 257, 258, 65536, 65537, 65538,
	1 << 32, 1<<32 + 1, 1<<32 + 2, -1 << 32, 1<<62 + 1,
	math.MaxInt, math.MaxInt - 1, math.MinInt, math.MinInt + 1, math.MinInt + 2,
}

// accesses: those that are one, and those that aren't.
func accesses() []api.Access {
	return append([]api.Access{api.Fetch, api.Load, api.Store}, noAccesses...)
}

// modes: every setting of User, Sum and Mxr.
func modes() []api.Mode {
	var l []api.Mode
	for i := range 8 {
		l = append(l, api.Mode{User: i&4 != 0, Sum: i&2 != 0, Mxr: i&1 != 0})
	}
	return l
}

// word of an entry: its flags, Rsw and Ppn.
func word(flags, rsw, ppn uint64) uint64 {
	return flags + 256*rsw + 1024*ppn
}

// of is the entry that a word has, by dividing.
func of(w uint64) api.Pte {
	var b [8]bool
	for i := range b {
		b[i] = w%2 == 1
		w /= 2
	}
	return api.Pte{
		V: b[0], R: b[1], W: b[2], X: b[3], U: b[4], G: b[5], A: b[6], D: b[7],
		Rsw: int(w % 4), Ppn: w / 4 % (1 << 44),
	}
}

// frames that a level's page has.
func frames(level int) uint64 {
	return [3]uint64{1, 512, 512 * 512}[level]
}

// number of an address at a level, by dividing.
func number(va uint64, level int) uint64 {
	return va / 4096 / frames(level) % 512
}

// world is a memory, and what stands in it: the words that aren't nought, by their places.
type world struct {
	t     *testing.T
	m     *phys.Memory
	size  uint64
	words map[uint64]uint64
}

func newWorld(t *testing.T, frames int) *world {
	t.Helper()
	m, e := phys.New(frames)
	if e != api.OK {
		t.Fatalf("New(%d): %v", frames, e)
	}
	return &world{t, m, uint64(frames) * 4096, map[uint64]uint64{}}
}

// put a word at an address's number of a level, in a frame.
func (w *world) put(frame, va uint64, level int, v uint64) uint64 {
	w.t.Helper()
	at := frame*4096 + number(va, level)*8
	if e := w.m.Store(at, 8, v); e != api.OK {
		w.t.Fatalf("Store(%x): %v", at, e)
	}
	w.words[at] = v
	return at
}

// find is what Find should be.
func (w *world) find(s api.Satp, va uint64) (api.Leaf, api.Errno) {
	if !s.On {
		return api.Leaf{}, api.ErrArg
	}
	if high := va / (1 << 38); high != 0 && high != 1<<26-1 {
		return api.Leaf{}, api.ErrNone
	}
	table := s.Ppn
	for level := 2; level >= 0; level-- {
		at := table%(1<<52)*4096 + number(va, level)*8
		if at >= w.size {
			return api.Leaf{}, api.ErrBound
		}
		v := w.words[at]
		p := of(v)
		switch {
		case v >= 1<<54 || !p.V || p.W && !p.R:
			return api.Leaf{}, api.ErrNone
		case (p.R || p.X) && p.Ppn%frames(level) == 0:
			return api.Leaf{Pte: p, Level: level, At: at}, api.OK
		case p.R || p.X || p.U || p.A || p.D:
			return api.Leaf{}, api.ErrNone
		}
		table = p.Ppn
	}
	return api.Leaf{}, api.ErrNone
}

// cause is what Walk's cause should be beside an error.
func cause(e api.Errno, a api.Access) api.Cause {
	page, bound := []api.Cause{12, 13, 15}, []api.Cause{1, 5, 7}
	if a < 0 || a > 2 {
		return -1
	}
	if e == api.ErrBound {
		return bound[a]
	}
	return page[a]
}

// found holds Find against a leaf and an error.
func (w *world) found(s api.Satp, va uint64, want api.Leaf, err api.Errno) {
	w.t.Helper()
	if l, e := walk.Find(w.m, s, va); l != want || e != err {
		w.t.Errorf("Find(%+v, %x): %+v, %v, not %+v, %v", s, va, l, e, want, err)
	}
}

// refused holds Find against an error, and Walk against the causes beside it.
func (w *world) refused(s api.Satp, va uint64, err api.Errno) {
	w.t.Helper()
	w.found(s, va, api.Leaf{}, err)
	for _, a := range []api.Access{api.Fetch, api.Load, api.Store, -1, 3} {
		if l, c := walk.Walk(w.m, s, va, a, api.Mode{User: true}); l != (api.Leaf{}) || c != cause(err, a) {
			w.t.Errorf("Walk(%+v, %x, %d): %+v, %v, not %v", s, va, a, l, c, cause(err, a))
		}
	}
}

// root is the satp of a road.
var root = api.Satp{On: true, Ppn: 1}

// road is a world in which the tables in the frames 1, 2 and 3 lead an address down to a
// leaf of the level 0, but that at one level another word stands; and that word's place.
func road(t *testing.T, va uint64, level int, v uint64) (*world, uint64) {
	t.Helper()
	w := newWorld(t, 8)
	w.put(1, va, 2, word(fV, 0, 2))
	w.put(2, va, 1, word(fV, 0, 3))
	w.put(3, va, 0, word(fAll, 0, 7))
	return w, w.put(uint64(3-level), va, level, v)
}

// next is the frame of the table behind the one that a road has at a level.
func next(level int) uint64 {
	return uint64(4 - level)
}

// P10.2: the chapter's example, and what else an empty table answers.
func TestExample(t *testing.T) {
	w := newWorld(t, 1)
	for _, va := range addresses {
		if l, c := walk.Walk(w.m, api.Satp{On: true}, va, api.Load, api.Mode{User: true}); l != (api.Leaf{}) || c != api.LoadPage {
			t.Errorf("Walk(%x): %+v, %v", va, l, c)
		}
		w.refused(api.Satp{On: true}, va, api.ErrNone)
	}
}

// P10.1: no memory comes ahead of all other errors.
func TestFindNil(t *testing.T) {
	w := newWorld(t, 1)
	w.m = nil
	for _, va := range append(notCanonical(), addresses...) {
		for _, on := range []bool{false, true} {
			for _, ppn := range []uint64{0, 1, mostPpn, 1 << 52, all} {
				w.refused(api.Satp{On: on, Asid: 3, Ppn: ppn}, va, api.ErrNil)
			}
		}
	}
}

// P10.1: a satp that isn't On comes ahead of addresses that aren't canonical and of
// tables beyond the memory, and where else a page would be found.
func TestFindOff(t *testing.T) {
	for _, va := range append(notCanonical(), addresses...) {
		w, _ := road(t, va, 0, word(fAll, 0, 7))
		for _, ppn := range []uint64{0, 1, 8, mostPpn, 1<<52 + 1, all} {
			w.refused(api.Satp{Ppn: ppn}, va, api.ErrArg)
			w.refused(api.Satp{Asid: api.MostAsid, Ppn: ppn}, va, api.ErrArg)
		}
	}
}

// P10.1: addresses that aren't canonical come ahead of tables beyond the memory, and
// have no page where the tables would lead to one.
func TestFindNotCanonical(t *testing.T) {
	for _, va := range notCanonical() {
		for level := range 3 {
			w, _ := road(t, va, level, word(fAll, 0, 0))
			w.refused(root, va, api.ErrNone)
		}
		w := newWorld(t, 1)
		for _, ppn := range []uint64{1, 8, mostPpn, all} {
			w.refused(api.Satp{On: true, Ppn: ppn}, va, api.ErrNone)
		}
	}
}

// P10.1: leaves at each of the levels: the entry whole, its level and where it stands.
func TestFindLeaf(t *testing.T) {
	for _, va := range addresses {
		for level := range 3 {
			for rsw := range uint64(4) {
				ppn := (rsw*5 + 3) * frames(level)
				w, at := road(t, va, level, word(fV+fR+fG, rsw, ppn))
				w.found(root, va, api.Leaf{Pte: api.Pte{V: true, R: true, G: true, Rsw: int(rsw), Ppn: ppn}, Level: level, At: at}, api.OK)
			}
		}
	}
}

// P10.1: leaves at each of the levels of one root, with all numbers written out.
func TestFindWritten(t *testing.T) {
	w := newWorld(t, 8)
	w.put(5, 0x80000000, 2, word(fV+fX, 1, 0x40000))
	w.put(5, 0x40000000, 2, word(fV, 2, 4))
	w.put(4, 0x40600000, 1, word(fV+fR+fW, 0, 0x200))
	w.put(4, 0x40400000, 1, word(fV, 0, 6))
	w.put(6, 0x40405000, 0, word(fV+fR, 3, 1))
	s := api.Satp{On: true, Asid: 9, Ppn: 5}
	w.found(s, 0xbfffffff, api.Leaf{Pte: api.Pte{V: true, X: true, Rsw: 1, Ppn: 0x40000}, Level: 2, At: 0x5010}, api.OK)
	w.found(s, 0x407fffff, api.Leaf{Pte: api.Pte{V: true, R: true, W: true, Ppn: 0x200}, Level: 1, At: 0x4018}, api.OK)
	w.found(s, 0x40405fff, api.Leaf{Pte: api.Pte{V: true, R: true, Rsw: 3, Ppn: 1}, Level: 0, At: 0x6028}, api.OK)
	w.refused(s, 0x40406000, api.ErrNone)
	w.refused(s, 0x40800000, api.ErrNone)
	w.refused(s, 0xc0000000, api.ErrNone)
}

// P10.1: each address has words of its own: its neighbours at each level aren't asked.
func TestFindNumbers(t *testing.T) {
	for _, va := range addresses {
		for level := range 3 {
			w, at := road(t, va, level, word(fAll, 0, 0))
			want := api.Leaf{Pte: of(fAll), Level: level, At: at}
			size := 4096 * frames(level)
			first := va / size * size
			w.found(root, first, want, api.OK)
			w.found(root, first+size-1, want, api.OK)
			for _, other := range []uint64{first - 1, first + size} {
				if l, e := walk.Find(w.m, root, other); l != (api.Leaf{}) || e != api.ErrNone {
					t.Errorf("Find(%x), a neighbour of %x at %d: %+v, %v", other, va, level, l, e)
				}
			}
		}
	}
}

// P10.1: the asid changes nothing, be it one or not.
func TestFindAsid(t *testing.T) {
	for _, asid := range []int{0, 1, 2, api.MostAsid, api.MostAsid + 1, -1, math.MaxInt, math.MinInt} {
		w, at := road(t, api.SharedBase, 0, word(fV+fR, 0, 7))
		w.found(api.Satp{On: true, Asid: asid, Ppn: 1}, api.SharedBase, api.Leaf{Pte: api.Pte{V: true, R: true, Ppn: 7}, At: at}, api.OK)
		w.refused(api.Satp{On: true, Asid: asid, Ppn: 8}, api.SharedBase, api.ErrBound)
	}
}

// P10.1: each setting of an entry's flags, at each level: leaves, tables that lead on,
// and what is neither. An entry that leads on comes to the leaf that stands below.
func TestFindFlags(t *testing.T) {
	for _, va := range []uint64{0, 0x3f81345678, all} {
		for level := range 3 {
			for flags := range uint64(256) {
				for rsw := range uint64(4) {
					// A leaf needs a multiple; what leads on needs the road's next table, which is none.
					ppn := next(level)
					if flags&(fR|fX) != 0 {
						ppn = frames(level)
					}
					w, at := road(t, va, level, word(flags, rsw, ppn))
					below := api.Leaf{Pte: of(word(fAll, 0, 7)), At: 3*4096 + number(va, 0)*8}
					switch {
					case flags&fV == 0 || flags&(fR|fW) == fW:
						w.found(root, va, api.Leaf{}, api.ErrNone)
					case flags&(fR|fX) != 0:
						w.found(root, va, api.Leaf{Pte: of(word(flags, rsw, ppn)), Level: level, At: at}, api.OK)
					case flags&(fU|fA|fD) != 0 || level == 0:
						w.found(root, va, api.Leaf{}, api.ErrNone)
					default:
						w.found(root, va, below, api.OK)
					}
				}
			}
		}
	}
}

// P10.1: an entry that leads on has neither U, A nor D: each alone and all together,
// wherever it would lead; G and Rsw may be set.
func TestFindTables(t *testing.T) {
	for _, va := range addresses {
		for level := 1; level < 3; level++ {
			for _, flags := range []uint64{fU, fA, fD, fU + fA, fU + fD, fA + fD, fU + fA + fD, fG + fU, fG + fA, fG + fD} {
				for _, ppn := range []uint64{next(level), 0, 8, mostPpn} {
					w, _ := road(t, va, level, word(fV+flags, 0, ppn))
					w.refused(root, va, api.ErrNone)
				}
			}
			w, _ := road(t, va, level, word(fV+fG, 3, next(level)))
			w.found(root, va, api.Leaf{Pte: of(word(fAll, 0, 7)), At: 3*4096 + number(va, 0)*8}, api.OK)
		}
	}
}

// P10.1: at the level 0 no entry leads on, wherever it would: to a table, to itself,
// beyond the memory.
func TestFindNoLeaf(t *testing.T) {
	for _, va := range addresses {
		for _, flags := range []uint64{fV, fV + fG, fV + fU, fV + fA, fV + fD, fV + fU + fA + fD} {
			for _, ppn := range []uint64{0, 1, 2, 3, 4, 7, 8, mostPpn} {
				w, _ := road(t, va, 0, word(flags, 0, ppn))
				w.put(4, va, 0, word(fAll, 0, 7))
				w.refused(root, va, api.ErrNone)
			}
		}
	}
	w := newWorld(t, 2)
	w.put(1, 0, 2, word(fV, 0, 1))
	w.refused(root, 0, api.ErrNone)
}

// P10.1: tables may be one: which level a word is asked at is told by the way to it.
func TestFindOneTable(t *testing.T) {
	const va = 0x40201000 // number 1 at each level
	w := newWorld(t, 2)
	w.put(1, va, 0, word(fV, 0, 1))
	w.refused(root, va, api.ErrNone)
	w.put(1, 0, 0, word(fV+fR, 0, 512))
	w.found(root, 0x40200000, api.Leaf{Pte: api.Pte{V: true, R: true, Ppn: 512}, Level: 0, At: 0x1000}, api.OK)
	w.found(root, 0x40000000, api.Leaf{Pte: api.Pte{V: true, R: true, Ppn: 512}, Level: 1, At: 0x1000}, api.OK)
	w.refused(root, 0, api.ErrNone)
}

// P10.1: a root's table that isn't in the memory, or is at its end. Its number isn't
// cut to what an entry could hold: it is taken modulo 2^64 when it is a place.
func TestFindBoundRoot(t *testing.T) {
	for _, frames := range []int{1, 2, 3, 8, api.MostFrames} {
		for _, va := range addresses {
			w := newWorld(t, frames)
			last := uint64(frames) - 1
			at := w.put(last, va, 2, word(fV+fX, 0, 1<<18))
			want := api.Leaf{Pte: api.Pte{V: true, X: true, Ppn: 1 << 18}, Level: 2, At: at}
			w.found(api.Satp{On: true, Ppn: last}, va, want, api.OK)
			for _, more := range []uint64{1, 2, 8, 0xff0, 0xfff} {
				w.found(api.Satp{On: true, Ppn: last + more<<52}, va, want, api.OK)
				w.refused(api.Satp{On: true, Ppn: last + 1 + more<<52}, va, api.ErrBound)
			}
			for _, ppn := range []uint64{
				last + 1, last + 2, last + 1<<20, last + 1<<32, last + 1<<40, last + 1<<43, last + 1<<44, last + 1<<51,
				mostPpn, mostPpn + 1, 1<<51 - 1, 1 << 51, 1<<52 - 1, 1<<63 - 1, all - 1, all,
			} {
				w.refused(api.Satp{On: true, Ppn: ppn}, va, api.ErrBound)
			}
		}
	}
}

// P10.1: tables that aren't in the memory, below the root: those just beyond it, and the
// greatest that an entry can tell.
func TestFindBoundBelow(t *testing.T) {
	for _, va := range addresses {
		for level := 1; level < 3; level++ {
			for _, ppn := range []uint64{8, 9, 16, 511, 512, 1 << 18, 1 << 20, 1 << 32, 1<<32 + 2, 1<<32 + 3, 1 << 43, mostPpn - 1, mostPpn} {
				w, _ := road(t, va, level, word(fV, 0, ppn))
				w.refused(root, va, api.ErrBound)
			}
		}
		// The last frame is still one.
		w := newWorld(t, 8)
		w.put(1, va, 2, word(fV, 0, 7))
		w.put(7, va, 1, word(fV, 0, 5))
		at := w.put(5, va, 0, word(fV+fR, 0, 9))
		w.found(root, va, api.Leaf{Pte: api.Pte{V: true, R: true, Ppn: 9}, At: at}, api.OK)
		w.put(7, va, 1, word(fV, 0, 2))
		w.put(2, va, 0, word(fV, 0, 0))
		w.put(1, va, 2, word(fV, 0, 2))
		w.put(2, va, 1, word(fV, 0, 7))
		at = w.put(7, va, 0, word(fV+fX, 1, 9))
		w.found(root, va, api.Leaf{Pte: api.Pte{V: true, X: true, Rsw: 1, Ppn: 9}, At: at}, api.OK)
	}
}

// P10.1: words with bits that may not be: each alone and all, in leaves and in what leads on.
func TestFindBits(t *testing.T) {
	for _, va := range addresses {
		for level := range 3 {
			for _, v := range []uint64{word(fV, 0, next(level)), word(fAll, 0, frames(level)), word(fV+fR, 0, 0), word(fV+fX, 3, 0), word(fV, 0, 8)} {
				for i := 54; i < 64; i++ {
					w, _ := road(t, va, level, v+1<<i)
					w.refused(root, va, api.ErrNone)
				}
				w, _ := road(t, va, level, v|0xffc0000000000000)
				w.refused(root, va, api.ErrNone)
			}
		}
	}
}

// P10.1: entries that aren't right, whatever else is set, also where they would lead beyond the memory.
func TestFindNotRight(t *testing.T) {
	for _, va := range addresses {
		for level := range 3 {
			for flags := range uint64(256) {
				if flags&fV != 0 && flags&(fR|fW) != fW {
					continue
				}
				for _, ppn := range []uint64{0, next(level), 8, mostPpn} {
					w, _ := road(t, va, level, word(flags, 0, ppn))
					w.found(root, va, api.Leaf{}, api.ErrNone)
				}
			}
		}
	}
}

// P10.1: a page of the levels 1 and 2 begins at a multiple of it: each of the lowest bits
// alone is refused, each one above them isn't; nor is any at the level 0.
func TestFindMultiple(t *testing.T) {
	for _, va := range addresses {
		for level := range 3 {
			for i := range 44 {
				for _, flags := range []uint64{fV + fR, fV + fX, fAll} {
					w, at := road(t, va, level, word(flags, 0, 1<<i))
					if i < 9*level {
						w.refused(root, va, api.ErrNone)
					} else {
						w.found(root, va, api.Leaf{Pte: of(word(flags, 0, 1<<i)), Level: level, At: at}, api.OK)
					}
				}
			}
		}
	}
	for level, ppns := range map[int][]uint64{1: {511, 513, 1023, mostPpn}, 2: {511, 512, 513, 1<<18 - 1, 1<<18 + 1, 1<<18 + 512, mostPpn, mostPpn - 511}} {
		for _, ppn := range ppns {
			w, _ := road(t, 0x40000000, level, word(fAll, 0, ppn))
			w.refused(root, 0x40000000, api.ErrNone)
		}
	}
}

// P10.1: a leaf may tell a page that isn't in the memory.
func TestFindPageBeyond(t *testing.T) {
	for level, ppns := range [][]uint64{{8, 9, 1 << 20, mostPpn}, {512, 1 << 20, mostPpn - 511}, {1 << 18, mostPpn - (1<<18 - 1)}} {
		for _, ppn := range ppns {
			w, at := road(t, 0x1234567, level, word(fAll, 0, ppn))
			w.found(root, 0x1234567, api.Leaf{Pte: of(word(fAll, 0, ppn)), Level: level, At: at}, api.OK)
		}
	}
}

// P10.2: what each access comes to at leaves that allow it and that don't, written out.
func TestWalk(t *testing.T) {
	user, kernel := api.Mode{User: true}, api.Mode{}
	for _, x := range []struct {
		flags uint64
		a     api.Access
		o     api.Mode
		c     api.Cause
	}{
		{fV + fX + fU + fA, api.Fetch, user, api.NoCause},
		{fV + fR + fU + fA, api.Fetch, user, api.FetchPage},
		{fV + fX + fA, api.Fetch, user, api.FetchPage},
		{fV + fX + fA, api.Fetch, kernel, api.NoCause},
		{fV + fX + fU + fA, api.Fetch, api.Mode{Sum: true}, api.FetchPage},
		{fV + fR + fU + fA, api.Load, user, api.NoCause},
		{fV + fX + fU + fA, api.Load, user, api.LoadPage},
		{fV + fX + fU + fA, api.Load, api.Mode{User: true, Mxr: true}, api.NoCause},
		{fV + fR + fA, api.Load, user, api.LoadPage},
		{fV + fR + fU + fA, api.Load, kernel, api.LoadPage},
		{fV + fR + fU + fA, api.Load, api.Mode{Sum: true}, api.NoCause},
		{fV + fR + fU, api.Load, user, api.LoadPage},
		{fV + fR + fW + fU + fA + fD, api.Store, user, api.NoCause},
		{fV + fR + fW + fU + fA, api.Store, user, api.StorePage},
		{fV + fR + fU + fA + fD, api.Store, user, api.StorePage},
		{fV + fR + fW + fU + fA + fD, api.Store, kernel, api.StorePage},
		{fV + fR + fW + fU + fA + fD, api.Store, api.Mode{Sum: true}, api.NoCause},
		{fAll, 3, user, api.NoCause},
		{fAll, -1, user, api.NoCause},
	} {
		for level := range 3 {
			w, at := road(t, api.SharedBase, level, word(x.flags, 1, frames(level)))
			want := api.Leaf{}
			if x.c == api.NoCause && x.a >= api.Fetch && x.a <= api.Store {
				want = api.Leaf{Pte: of(word(x.flags, 1, frames(level))), Level: level, At: at}
			}
			if l, c := walk.Walk(w.m, root, api.SharedBase, x.a, x.o); l != want || c != x.c {
				t.Errorf("Walk to %s at %d, %d, %+v: %+v, %d", perm.Text(of(x.flags)), level, x.a, x.o, l, c)
			}
		}
	}
}

// walked holds Walk against Find and layer 9's Check.
func (w *world) walked(s api.Satp, va uint64, a api.Access, o api.Mode) {
	w.t.Helper()
	want, err := w.find(s, va)
	c := api.NoCause
	if err != api.OK || !perm.Check(want.Pte, a, o) {
		want, c = api.Leaf{}, cause(err, a)
	}
	if l, got := walk.Walk(w.m, s, va, a, o); l != want || got != c {
		w.t.Fatalf("Walk(%+v, %x, %d, %+v): %+v, %d, not %+v, %d", s, va, a, o, l, got, want, c)
	}
}

// P10.2: every setting of a leaf's flags at each level, by every mode and access, those
// that aren't one too.
func TestWalkAll(t *testing.T) {
	for level := range 3 {
		for flags := range uint64(256) {
			w, _ := road(t, 0x3f81345678, level, word(flags, 2, frames(level)))
			for _, o := range modes() {
				for _, a := range accesses() {
					w.walked(root, 0x3f81345678, a, o)
				}
			}
		}
	}
}

// P10.2: each of Find's errors, and no memory, by every mode and access: none but
// ErrBound has the causes of Bound, and what is no access has no cause.
func TestWalkErrors(t *testing.T) {
	w := newWorld(t, 2)
	w.put(1, 0, 2, word(fV, 0, 2))
	w.put(1, 1<<30, 2, word(fV+fU, 0, 2))
	for _, x := range []struct {
		m  *phys.Memory
		s  api.Satp
		va uint64
		e  api.Errno
	}{
		{nil, root, 0, api.ErrNil},
		{nil, api.Satp{}, 1 << 38, api.ErrNil},
		{nil, api.Satp{On: true, Ppn: 2}, 0, api.ErrNil},
		{w.m, api.Satp{}, 0, api.ErrArg},
		{w.m, api.Satp{Ppn: 1}, 1 << 38, api.ErrArg},
		{w.m, api.Satp{Ppn: 2}, 0, api.ErrArg},
		{w.m, root, 1 << 38, api.ErrNone},
		{w.m, api.Satp{On: true, Ppn: 2}, 1 << 63, api.ErrNone},
		{w.m, root, 1 << 30, api.ErrNone},
		{w.m, root, 1 << 31, api.ErrNone},
		{w.m, root, all, api.ErrNone},
		{w.m, root, 0, api.ErrBound},
		{w.m, api.Satp{On: true, Ppn: 2}, 0, api.ErrBound},
		{w.m, api.Satp{On: true, Ppn: all}, all, api.ErrBound},
	} {
		if l, e := walk.Find(x.m, x.s, x.va); l != (api.Leaf{}) || e != x.e {
			t.Errorf("Find(%+v, %x): %+v, %v, not %v", x.s, x.va, l, e, x.e)
		}
		for _, o := range modes() {
			for _, a := range accesses() {
				if l, c := walk.Walk(x.m, x.s, x.va, a, o); l != (api.Leaf{}) || c != cause(x.e, a) {
					t.Errorf("Walk(%+v, %x, %d, %+v): %+v, %d, not %d", x.s, x.va, a, o, l, c, cause(x.e, a))
				}
			}
		}
	}
}

// P10.3: places of ordinary pages at each level, with numbers beyond what an entry holds,
// and with such as are no multiple: there the address's bits stand in their stead.
func TestPlace(t *testing.T) {
	for _, x := range []struct {
		ppn, va uint64
		level   int
		at      uint64
	}{
		{0, 0, 0, 0}, {0, 0, 1, 0}, {0, 0, 2, 0},
		{7, 0x40000123, 0, 0x7123}, {512, 0x40212345, 1, 0x212345}, {1 << 18, 0x80000010, 2, 0x40000010},
		{0x801, 0x3fc05678, 0, 0x801678}, {0x801, 0x3fc05678, 1, 0x805678}, {0x7ffff, 0x3fc05678, 2, 0x7fc05678},
		{1, all, 0, 0x1fff}, {0, all, 1, 0x1fffff}, {0, all, 2, 0x3fffffff},
		{mostPpn, 0, 0, 0xfffffffffff000}, {mostPpn, 0, 1, 0xffffffffe00000}, {mostPpn, 0, 2, 0xffffffc0000000},
		{1 << 52, 0x123, 0, 0x123}, {1<<52 + 1, 0x123, 0, 0x1123}, {all, 0, 0, 0xfffffffffffff000},
		{all, all, 0, all}, {all, all, 1, all}, {all, all, 2, all},
	} {
		for _, more := range []api.Leaf{
			{},
			{At: all, Pte: api.Pte{Rsw: 3}},
			{At: 0x123456, Pte: api.Pte{V: true, R: true, W: true, X: true, U: true, G: true, A: true, D: true}},
		} {
			more.Pte.Ppn, more.Level = x.ppn, x.level
			if at := walk.Place(more, x.va); at != x.at {
				t.Errorf("Place(%+v, %x): %x, not %x", more, x.va, at, x.at)
			}
		}
	}
}

// P10.3: each bit of the leaf's number and of the address, at each level.
func TestPlaceBits(t *testing.T) {
	for level := range 3 {
		inside := 12 + 9*level
		for i := range 64 {
			l := api.Leaf{Pte: api.Pte{Ppn: 1 << i}, Level: level}
			var want uint64
			if i+12 >= inside && i+12 < 64 {
				want = 1 << (i + 12)
			}
			if at := walk.Place(l, 0); at != want {
				t.Errorf("Place of bit %d at %d: %x, not %x", i, level, at, want)
			}
			want = 0
			if i < inside {
				want = 1 << i
			}
			if at := walk.Place(api.Leaf{Level: level}, 1<<i); at != want {
				t.Errorf("Place of an address's bit %d at %d: %x, not %x", i, level, at, want)
			}
		}
	}
}

// P10.3: levels that aren't have no place.
func TestPlaceNoLevel(t *testing.T) {
	for _, level := range []int{
		-1, -2, -3, -8, -9, -64, -256, 3, 4, 5, 6, 7, 8, 9, 64, 255, 256, 257, 258, 65536, 65537,
		math.MaxInt32, math.MinInt32, 1 << 32, 1<<32 + 1, 1<<32 + 2, 1 << 61, 1 << 62, -1 << 62,
		math.MaxInt, math.MaxInt - 1, math.MinInt, math.MinInt + 1, math.MinInt + 2,
	} {
		for _, ppn := range []uint64{0, 1, 512, 1 << 18, mostPpn, all} {
			for _, va := range append(notCanonical(), addresses...) {
				if at := walk.Place(api.Leaf{Pte: of(word(fAll, 3, ppn%(1<<44))), Level: level, At: all}, va); at != 0 {
					t.Fatalf("Place of %x at %d, %x: %x", ppn, level, va, at)
				}
			}
		}
	}
}

// P10.1 and P10.3: what is found has its place in the memory, where the walk's tables say.
func TestFindPlace(t *testing.T) {
	for _, va := range addresses {
		for level := range 3 {
			size := 4096 * frames(level)
			w, _ := road(t, va, level, word(fV+fR, 0, 3*frames(level)))
			l, e := walk.Find(w.m, root, va)
			if at := walk.Place(l, va); e != api.OK || at != 3*size+va%size {
				t.Errorf("Place of %x at %d: %x, %v", va, level, at, e)
			}
		}
	}
}

// chance makes numbers that are alike in each run.
type chance uint64

func (c *chance) next() uint64 {
	*c = *c*6364136223846793005 + 1442695040888963407
	return uint64(*c)*0x9e3779b97f4a7c15 ^ uint64(*c)>>29
}

// below a number.
func (c *chance) below(n uint64) uint64 {
	return c.next() >> 11 % n
}

// entry of some kind: most lead on or are leaves, the others are spoilt.
func (c *chance) entry() uint64 {
	v := word(fV, c.below(4), c.below(9))
	switch c.below(8) {
	case 0:
		v = word(c.below(256), c.below(4), c.below(4)*512)
	case 1:
		v = word(c.below(256)|fV|fR, c.below(4), c.below(3)<<18)
	case 2:
		v = word(c.below(256)|fV|fX, c.below(4), c.below(1<<44))
	case 3:
		v = c.next()
	case 4:
		v |= uint64(fG)
	}
	if c.below(16) == 0 {
		v ^= 1 << c.below(64)
	}
	return v
}

// P10.1 and P10.2: tables of all kinds of entries, against the walk by dividing.
func TestFindMixed(t *testing.T) {
	c := chance(10)
	numbers := []uint64{0, 1, 255, 256, 511}
	met := map[api.Errno]int{}
	levels := map[int]int{}
	for range 300 {
		w := newWorld(t, 7)
		for frame := range uint64(7) {
			for _, n := range numbers {
				w.put(frame, n<<12, 0, c.entry())
			}
		}
		for range 200 {
			va := c.below(4096)
			for level := range 3 {
				va += numbers[c.below(5)] << (12 + 9*level)
			}
			if va>>38 == 1 {
				va |= 0xffffff8000000000
			}
			if c.below(32) == 0 {
				va ^= 1 << (38 + c.below(26))
			}
			s := api.Satp{On: c.below(32) > 0, Asid: int(c.next()), Ppn: c.below(8) + c.below(2)*(c.next()<<52)}
			want, err := w.find(s, va)
			w.found(s, va, want, err)
			w.walked(s, va, api.Access(c.below(5))-1, api.Mode{User: c.below(2) > 0, Sum: c.below(2) > 0, Mxr: c.below(2) > 0})
			met[err]++
			if err == api.OK {
				levels[want.Level]++
			}
		}
	}
	for _, e := range []api.Errno{api.OK, api.ErrArg, api.ErrNone, api.ErrBound} {
		if met[e] < 100 {
			t.Errorf("%v was met %d times", e, met[e])
		}
	}
	for level := range 3 {
		if levels[level] < 100 {
			t.Errorf("level %d was met %d times", level, levels[level])
		}
	}
}

// P10.1 and P10.2: the memory is as it was, and nothing is kept from call to call.
func TestNothingChanged(t *testing.T) {
	const va = 0x3f81345678
	w, at := road(t, va, 0, word(fV+fR+fW+fU, 0, 7))
	image := func() []byte {
		var b []byte
		for f := range w.m.Frames() {
			p, _ := w.m.Page(f)
			b = append(b, p...)
		}
		return b
	}
	before := image()
	for range 3 {
		for _, s := range []api.Satp{root, {}, {On: true}, {On: true, Ppn: 8}} {
			for _, a := range accesses() {
				for _, o := range modes() {
					w.walked(s, va, a, o)
				}
			}
		}
		w.found(root, va, api.Leaf{Pte: of(word(fV+fR+fW+fU, 0, 7)), At: at}, api.OK)
	}
	if !bytes.Equal(image(), before) {
		t.Error("the memory has changed")
	}
	// What stands there now is told, not what stood there.
	w.put(3, va, 0, word(fV+fX, 0, 5))
	w.found(root, va, api.Leaf{Pte: of(word(fV+fX, 0, 5)), At: at}, api.OK)
	w.put(2, va, 1, word(fV, 0, 8))
	w.refused(root, va, api.ErrBound)
	w.put(1, va, 2, 0)
	w.refused(root, va, api.ErrNone)
}
