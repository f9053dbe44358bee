package frames_test

import (
	"fmt"
	"math"
	"runtime"
	"slices"
	"testing"

	"runrig/api"
	"runrig/frames"
)

// far are numbers that no stock has: below nought, behind the greatest memory,
// near the ends of int, and such as are small ones in 20 or 32 bits.
var far = []int{
	-1, -2, -3, -10, -api.MostFrames, -api.MostFrames - 1, -api.MostFrames + 1,
	api.MostFrames, api.MostFrames + 1, api.MostFrames + 2, 2 * api.MostFrames, 2*api.MostFrames + 3,
	math.MaxInt32, math.MaxInt32 + 1, math.MinInt32, math.MinInt32 - 1, 1 << 32, 1<<32 + 1, 1<<32 + 2, -1 << 32, -1<<32 + 2,
	1 << 62, -1 << 62, math.MaxInt, math.MaxInt - 1, math.MaxInt - 2, math.MaxInt - api.MostFrames,
	math.MinInt, math.MinInt + 1, math.MinInt + 2, math.MinInt + api.MostFrames,
}

// both is a stock, and what it should be: its free frames in a row, the first
// ahead, and those that are taken.
type both struct {
	t        *testing.T
	s        *frames.Stock
	first, n int
	free     []int
	taken    map[int]bool
}

func newBoth(t *testing.T, first, n int) *both {
	t.Helper()
	s, e := frames.New(first, n)
	if s == nil || e != api.OK {
		t.Fatalf("New(%d, %d): %v, %v", first, n, s, e)
	}
	b := &both{t: t, s: s, first: first, n: n, taken: map[int]bool{}}
	for f := first; f < first+n; f++ {
		b.free = append(b.free, f)
	}
	b.counts()
	return b
}

// counts holds how many are free and taken against what they should be.
func (b *both) counts() {
	b.t.Helper()
	free, used := b.s.Free(), b.s.Used()
	if free != len(b.free) || used != len(b.taken) || free+used != b.n {
		b.t.Fatalf("%d free and %d used, not %d and %d", free, used, len(b.free), len(b.taken))
	}
}

// same holds the counts and whether each frame is taken, the neighbours and far
// numbers too, against what they should be.
func (b *both) same() {
	b.t.Helper()
	b.counts()
	for f := b.first - 3; f < b.first+b.n+3; f++ {
		if is := b.s.Taken(f); is != b.taken[f] {
			b.t.Fatalf("Taken(%d): %v", f, is)
		}
	}
	for _, f := range far {
		if is := b.s.Taken(f); is != b.taken[f] {
			b.t.Fatalf("Taken(%d): %v", f, is)
		}
	}
	b.counts()
}

// take from both.
func (b *both) take() int {
	b.t.Helper()
	f, e := b.s.Take()
	if len(b.free) == 0 {
		if f != -1 || e != api.ErrFull {
			b.t.Fatalf("Take: %d, %v, with none left", f, e)
		}
	} else {
		if f != b.free[0] || e != api.OK {
			b.t.Fatalf("Take: %d, %v, not %d", f, e, b.free[0])
		}
		if b.taken[f] { // P7.2
			b.t.Fatalf("Take: %d is taken already", f)
		}
		b.free = b.free[1:]
		b.taken[f] = true
	}
	b.counts()
	return f
}

// give to both.
func (b *both) give(frame int) {
	b.t.Helper()
	is := api.ErrNone
	if b.taken[frame] {
		is = api.OK
		delete(b.taken, frame)
		b.free = slices.Insert(b.free, 0, frame)
	}
	if e := b.s.Give(frame); e != is {
		b.t.Fatalf("Give(%d): %v, not %v", frame, e, is)
	}
	b.counts()
}

// refuse holds that a frame isn't to be given, as often as it is tried, and that this changes nothing.
func (b *both) refuse(frame int) {
	b.t.Helper()
	if b.taken[frame] {
		b.t.Fatalf("%d is to be given", frame)
	}
	for range 2 {
		b.give(frame)
		if b.s.Taken(frame) {
			b.t.Fatalf("Taken(%d) behind a Give that was refused", frame)
		}
	}
}

// rest takes all that is left, and tries for more.
func (b *both) rest() {
	b.t.Helper()
	for len(b.free) > 0 {
		b.take()
	}
	for range 3 {
		b.take()
	}
	b.same()
}

// P7.1: the chapter's example.
func TestExample(t *testing.T) {
	s, e := frames.New(2, 3)
	if e != api.OK {
		t.Fatalf("New(2, 3): %v", e)
	}
	take := func(want int, is api.Errno) {
		t.Helper()
		if f, e := s.Take(); f != want || e != is {
			t.Errorf("Take: %d, %v, not %d, %v", f, e, want, is)
		}
	}
	take(2, api.OK)
	take(3, api.OK)
	if e := s.Give(2); e != api.OK {
		t.Errorf("Give(2): %v", e)
	}
	take(2, api.OK)
	take(4, api.OK)
	take(-1, api.ErrFull)
}

// P7.1: stocks of all frames that a memory may have, and no other.
func TestNew(t *testing.T) {
	const most = api.MostFrames
	for _, x := range []struct{ first, n int }{
		{0, 0}, {0, 1}, {0, 2}, {1, 0}, {1, 1}, {2, 3}, {10, 4}, {1000, 70000},
		{0, most - 1}, {0, most}, {1, most - 1}, {1, most - 2}, {2, most - 2},
		{most / 2, most / 2}, {most/2 - 1, most / 2}, {most / 2, most/2 - 1},
		{most - 2, 0}, {most - 2, 1}, {most - 2, 2}, {most - 1, 0}, {most - 1, 1}, {most, 0},
	} {
		s, e := frames.New(x.first, x.n)
		if s == nil || e != api.OK {
			t.Errorf("New(%d, %d): %v, %v", x.first, x.n, s, e)
			continue
		}
		if s.Free() != x.n || s.Used() != 0 {
			t.Errorf("New(%d, %d): %d free, %d used", x.first, x.n, s.Free(), s.Used())
		}
	}
	for _, x := range []struct{ first, n int }{
		{-1, 0}, {-1, 1}, {-1, 2}, {-1, most}, {-1, most + 1}, {-most, most}, {-2, 5},
		{0, -1}, {0, -2}, {0, most + 1}, {1, -1}, {2, -1}, {5, -5}, {most, -1}, {most + 1, -1}, {most + 2, -2},
		{1, most}, {2, most - 1}, {2, most}, {most / 2, most/2 + 1}, {most/2 + 1, most / 2},
		{most - 1, 2}, {most, 1}, {most, most}, {most + 1, 0}, {most + 1, 1}, {most + 2, 0}, {-1, -1},
	} {
		if s, e := frames.New(x.first, x.n); s != nil || e != api.ErrArg {
			t.Errorf("New(%d, %d): %v, %v", x.first, x.n, s, e)
		}
	}
}

// P7.1: numbers whose sum is no more than 2^20 by their wrapping round alone, or
// which are small in 32 bits.
func TestNewFar(t *testing.T) {
	near := []int{-3, -2, -1, 0, 1, 2, 3, api.MostFrames / 2, api.MostFrames - 1, api.MostFrames}
	for _, f := range far {
		for _, o := range append(near, far...) {
			for _, x := range [][2]int{{f, o}, {o, f}} {
				first, n := x[0], x[1]
				if first == api.MostFrames && n == 0 || first == 0 && n == api.MostFrames {
					continue
				}
				if s, e := frames.New(first, n); s != nil || e != api.ErrArg {
					t.Errorf("New(%d, %d): %v, %v", first, n, s, e)
				}
			}
		}
	}
}

// P7.1: frames that were never taken come the least first, each once, until none is left.
func TestTakeAll(t *testing.T) {
	for _, n := range []int{0, 1, 2, 3, 7, 64, 300} {
		for _, first := range []int{0, 1, 2, 255, 65535, api.MostFrames - n} {
			b := newBoth(t, first, n)
			b.same()
			for i := range n {
				if f := b.take(); f != first+i {
					t.Fatalf("New(%d, %d): Take %d: %d", first, n, i, f)
				}
				b.same()
			}
			b.rest()
		}
	}
}

// P7.1: a stock of no frames has none to take and none to be given.
func TestNoFrames(t *testing.T) {
	for _, first := range []int{0, 1, 2, 1000, api.MostFrames - 1, api.MostFrames} {
		b := newBoth(t, first, 0)
		b.rest()
		for _, f := range append([]int{first - 1, first, first + 1}, far...) {
			b.refuse(f)
		}
		b.rest()
	}
}

// P7.1: the greatest stock has all of its frames, and costs nothing until it is used.
func TestGreatest(t *testing.T) {
	var before, behind runtime.MemStats
	runtime.ReadMemStats(&before)
	s, _ := frames.New(0, api.MostFrames)
	for want := range 3 {
		if f, e := s.Take(); f != want || e != api.OK {
			t.Fatalf("Take: %d, %v", f, e)
		}
	}
	runtime.ReadMemStats(&behind)
	if n := behind.TotalAlloc - before.TotalAlloc; n > 1<<20 {
		t.Errorf("three frames of the greatest stock took %d bytes", n)
	}
	for want := 3; want < api.MostFrames; want++ {
		if f, e := s.Take(); f != want || e != api.OK {
			t.Fatalf("Take: %d, %v, not %d", f, e, want)
		}
	}
	if f, e := s.Take(); f != -1 || e != api.ErrFull {
		t.Fatalf("Take: %d, %v", f, e)
	}
	if s.Free() != 0 || s.Used() != api.MostFrames || !s.Taken(api.MostFrames-1) || s.Taken(api.MostFrames) {
		t.Fatalf("%d free, %d used", s.Free(), s.Used())
	}
	for f := range api.MostFrames {
		if e := s.Give(f); e != api.OK {
			t.Fatalf("Give(%d): %v", f, e)
		}
	}
	if s.Free() != api.MostFrames || s.Used() != 0 {
		t.Fatalf("%d free, %d used", s.Free(), s.Used())
	}
	for want := api.MostFrames - 1; want >= 0; want-- {
		if f, e := s.Take(); f != want || e != api.OK {
			t.Fatalf("Take: %d, %v, not %d", f, e, want)
		}
	}
}

// P7.1: of those that were given the last one comes first, ahead of those that
// were never taken, wherever it stands among them.
func TestLastGivenFirst(t *testing.T) {
	order := [][]int{{5}, {6}, {7}, {5, 6}, {6, 5}, {7, 5}, {5, 6, 7}, {7, 6, 5}, {6, 7, 5}, {6, 5, 7}, {5, 7, 6}, {7, 5, 6}}
	for _, gives := range order {
		b := newBoth(t, 5, 6)
		for range 3 {
			b.take()
		}
		for _, f := range gives {
			b.give(f)
			b.same()
		}
		for i := len(gives) - 1; i >= 0; i-- {
			if f := b.take(); f != gives[i] {
				t.Fatalf("gave %v: Take: %d, not %d", gives, f, gives[i])
			}
		}
		for want := 8; want < 11; want++ {
			if f := b.take(); f != want {
				t.Fatalf("gave %v: Take: %d, not %d", gives, f, want)
			}
		}
		b.rest()
	}
}

// P7.1: gives between takes, and gives of what was given and taken again.
func TestMixedOrder(t *testing.T) {
	b := newBoth(t, 10, 6)
	for _, x := range []struct{ give, take int }{ // -1: nothing is given
		{-1, 10}, {-1, 11}, {-1, 12}, {10, 10}, {11, 11}, {-1, 13}, {10, 10}, {13, 13}, {12, 12}, {-1, 14},
	} {
		if x.give >= 0 {
			b.give(x.give)
		}
		if f := b.take(); f != x.take {
			t.Fatalf("Take: %d, not %d", f, x.take)
		}
		b.same()
	}
	b.give(14)
	b.give(10)
	b.give(12)
	b.take() // 12
	b.give(13)
	b.give(12)
	for _, want := range []int{12, 13, 10, 14, 15, -1} {
		if f := b.take(); f != want {
			t.Fatalf("Take: %d, not %d", f, want)
		}
	}
	b.rest()
}

// P7.1: a frame is to be had again behind the end of the stock, as often as it is given.
func TestGiveBehindFull(t *testing.T) {
	b := newBoth(t, 3, 4)
	for range 3 {
		b.rest()
		b.give(5)
		b.same()
		if f := b.take(); f != 5 {
			t.Fatalf("Take: %d", f)
		}
		b.rest()
		for f := 3; f < 7; f++ {
			b.give(f)
		}
		b.same()
	}
}

// P7.1: what isn't taken isn't to be given, whatever it is: never taken, given
// already, ahead of the stock or behind it; the frames come as if nobody had tried.
func TestGiveNone(t *testing.T) {
	for _, first := range []int{0, 1, 7, 100, api.MostFrames - 5} {
		b := newBoth(t, first, 5)
		others := append([]int{first - 2, first - 1, first + 5, first + 6, first + 1<<32, first - 1<<32, ^first}, far...)
		try := func() {
			t.Helper()
			for _, f := range others {
				if !b.taken[f] {
					b.refuse(f)
				}
			}
			for f := first; f < first+5; f++ {
				if !b.taken[f] {
					b.refuse(f)
				}
			}
			b.same()
		}
		try()
		for range 3 {
			b.take()
			try()
		}
		b.give(first + 1)
		b.refuse(first + 1) // the second time
		try()
		b.give(first)
		try()
		for _, want := range []int{first, first + 1, first + 3, first + 4} {
			if f := b.take(); f != want {
				t.Fatalf("Take: %d, not %d", f, want)
			}
			try()
		}
		b.rest()
		try()
	}
}

// P7.1: a frame that was given twice comes once.
func TestGivenTwice(t *testing.T) {
	b := newBoth(t, 0, 3)
	b.take()
	b.give(0)
	b.refuse(0)
	if f := b.take(); f != 0 {
		t.Fatalf("Take: %d", f)
	}
	if f := b.take(); f != 1 {
		t.Fatalf("Take: %d", f)
	}
	b.rest()
}

// P7.1: a frame of the stock is taken from its Take to its Give; no other ever is.
func TestTaken(t *testing.T) {
	b := newBoth(t, 4, 3)
	for f := 4; f < 7; f++ {
		if b.s.Taken(f) {
			t.Errorf("Taken(%d) of a new stock", f)
		}
		b.take()
		if !b.s.Taken(f) {
			t.Errorf("not Taken(%d) behind its Take", f)
		}
	}
	b.same()
	b.give(5)
	if b.s.Taken(5) || !b.s.Taken(4) || !b.s.Taken(6) {
		t.Errorf("Taken behind Give(5): %v %v %v", b.s.Taken(4), b.s.Taken(5), b.s.Taken(6))
	}
	b.same()
}

// P7.1: asking changes nothing.
func TestAsking(t *testing.T) {
	b := newBoth(t, 2, 5)
	for range 4 {
		b.take()
	}
	b.give(3)
	b.give(2)
	for range 3 {
		b.same()
	}
	for _, want := range []int{2, 3, 6, -1} {
		b.same()
		if f := b.take(); f != want {
			t.Fatalf("Take: %d, not %d", f, want)
		}
	}
}

// P7.1, P7.2: stocks are apart from one another, those of the same frames too.
func TestApart(t *testing.T) {
	all := []*both{newBoth(t, 0, 5), newBoth(t, 0, 5), newBoth(t, 3, 5), newBoth(t, 5, 0), newBoth(t, 5, 3)}
	check := func() {
		t.Helper()
		for _, b := range all {
			b.same()
		}
	}
	for i, b := range all {
		for range i + 1 {
			b.take()
			check()
		}
	}
	for _, b := range all {
		for _, f := range []int{0, 4, 5, 1, 9} {
			b.give(f)
			check()
		}
	}
	for _, b := range all {
		b.rest()
		check()
	}
}

// chance makes numbers that are alike in each run.
type chance uint64

func (c *chance) next(n int) int {
	*c = *c*6364136223846793005 + 1442695040888963407
	return int(uint64(*c>>33) % uint64(n))
}

// P7.1, P7.2: takes and gives by turns, right and wrong ones, with times at which
// most is taken and times at which most is free; no frame comes that is taken.
func TestMany(t *testing.T) {
	for _, x := range []struct{ first, n int }{{0, 1}, {5, 2}, {0, 3}, {1, 17}, {1000, 100}, {api.MostFrames - 40, 40}} {
		t.Run(fmt.Sprint(x.first, " ", x.n), func(t *testing.T) {
			b := newBoth(t, x.first, x.n)
			c := chance(x.n)
			for i := range 40000 {
				takes := 30 + i/500%2*40 // of a hundred
				switch k := c.next(100); {
				case k < takes:
					b.take()
				case k < 95:
					b.give(x.first + c.next(x.n))
				default:
					b.refuse(far[c.next(len(far))] | 1<<40) // never one of the stock
					b.give(x.first - 2 + c.next(x.n+4))
				}
				if i%97 == 0 {
					b.same()
				}
			}
			b.rest()
		})
	}
}

// P7.2: a stock that nobody gives back to tells each of its frames once.
func TestEachOnce(t *testing.T) {
	s, _ := frames.New(7, 1000)
	seen := map[int]bool{}
	for range 1005 {
		f, e := s.Take()
		if e == api.OK && (seen[f] || f < 7 || f >= 1007) {
			t.Fatalf("Take: %d", f)
		}
		if e == api.OK {
			seen[f] = true
		}
	}
	if len(seen) != 1000 {
		t.Errorf("%d frames", len(seen))
	}
}

// P7.2: a nil stock has nothing, whatever it is asked.
func TestNil(t *testing.T) {
	var s *frames.Stock
	for range 2 {
		if f, e := s.Take(); f != -1 || e != api.ErrNil {
			t.Errorf("Take: %d, %v", f, e)
		}
		for _, f := range append([]int{0, 1, 2, 1000, api.MostFrames - 1}, far...) {
			if e := s.Give(f); e != api.ErrNil {
				t.Errorf("Give(%d): %v", f, e)
			}
			if s.Taken(f) {
				t.Errorf("Taken(%d)", f)
			}
		}
		if s.Free() != 0 || s.Used() != 0 {
			t.Errorf("%d free, %d used", s.Free(), s.Used())
		}
	}
}
