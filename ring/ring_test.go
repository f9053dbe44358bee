package ring_test

import (
	"fmt"
	"math"
	"reflect"
	"runtime"
	"slices"
	"testing"
	"weak"

	"runrig/ring"
)

// most is the greatest room.
const most = 65536

// noPlaces are places at which no ring has a thing: below nought, from the
// greatest room on, near the ends of int, and those that are a place in 16, 32 or
// 63 bits.
var noPlaces = []int{
	-1, -2, -3, -most, -most - 1, most, most + 1, most + 2,
	math.MaxInt32, math.MaxInt32 + 1, math.MinInt32, math.MinInt32 - 1, 1 << 32, 1<<32 + 1, -1 << 32, -1<<32 + 1,
	1 << 62, 1<<62 + 1, math.MaxInt, math.MaxInt - 1, math.MaxInt - 2, math.MaxInt - most,
	math.MinInt, math.MinInt + 1, math.MinInt + 2, math.MinInt + most,
}

// model is a ring as a list that is cut and lengthened.
type model[V any] struct {
	room int
	line []V
}

func (m *model[V]) push(v V) bool {
	if len(m.line) >= m.room {
		return false
	}
	m.line = append(m.line, v)
	return true
}

func (m *model[V]) pop() (V, bool) {
	var v V
	if len(m.line) == 0 {
		return v, false
	}
	v, m.line = m.line[0], m.line[1:]
	return v, true
}

// both is a ring, and what it should be.
type both[V comparable] struct {
	t    *testing.T
	ring *ring.Ring[V]
	want model[V]
}

func newBoth[V comparable](t *testing.T, room int) *both[V] {
	return &both[V]{t, ring.New[V](room), model[V]{room: min(max(room, 0), most)}}
}

// push to both.
func (b *both[V]) push(v V) {
	b.t.Helper()
	if got, want := b.ring.Push(v), b.want.push(v); got != want {
		b.t.Fatalf("room %d, with %d: Push(%v): %v, not %v", b.want.room, b.ring.Len(), v, got, want)
	}
	b.size()
}

// pop from both.
func (b *both[V]) pop() {
	b.t.Helper()
	v, ok := b.ring.Pop()
	if want, is := b.want.pop(); v != want || ok != is {
		b.t.Fatalf("room %d: Pop: %v %v, not %v %v", b.want.room, v, ok, want, is)
	}
	b.size()
}

// size of both.
func (b *both[V]) size() {
	b.t.Helper()
	if n := len(b.want.line); b.ring.Len() != n || b.ring.Room() != b.want.room {
		b.t.Fatalf("%d of %d, not %d of %d", b.ring.Len(), b.ring.Room(), n, b.want.room)
	}
}

// same holds all that a ring tells against what it should.
func (b *both[V]) same() {
	b.t.Helper()
	b.size()
	if l := b.ring.List(); !slices.Equal(l, b.want.line) {
		b.t.Fatalf("room %d: List: %v, not %v", b.want.room, l, b.want.line)
	}
	for i, v := range b.want.line {
		if got, ok := b.ring.At(i); got != v || !ok {
			b.t.Fatalf("room %d, of %d: At(%d): %v %v, not %v", b.want.room, len(b.want.line), i, got, ok, v)
		}
	}
	for _, i := range append([]int{len(b.want.line), len(b.want.line) + 1, b.want.room, b.want.room + 1}, noPlaces...) {
		if i >= 0 && i < len(b.want.line) {
			continue
		}
		var none V
		if got, ok := b.ring.At(i); got != none || ok {
			b.t.Fatalf("room %d, of %d: At(%d): %v %v", b.want.room, len(b.want.line), i, got, ok)
		}
	}
	b.size()
}

// P5.1, P5.2: the chapter's example.
func TestExample(t *testing.T) {
	r := ring.New[int](2)
	if a, b, c := r.Push(7), r.Push(8), r.Push(9); !a || !b || c {
		t.Errorf("Push 7, 8, 9: %v, %v, %v", a, b, c)
	}
	if v, ok := r.Pop(); v != 7 || !ok {
		t.Errorf("Pop: %d %v, not 7", v, ok)
	}
	if !r.Push(9) {
		t.Errorf("Push 9 is false")
	}
	if l := r.List(); !slices.Equal(l, []int{8, 9}) {
		t.Errorf("List: %v, not 8, 9", l)
	}
}

// P5.1: a room below 0 is 0, one above 65536 is 65536; a new ring is empty.
func TestRoom(t *testing.T) {
	for _, x := range []struct{ room, want int }{
		{0, 0}, {1, 1}, {2, 2}, {3, 3}, {16, 16}, {255, 255}, {256, 256}, {1000, 1000},
		{most - 1, most - 1}, {most, most}, {most + 1, most}, {most + 2, most}, {2 * most, most},
		{-1, 0}, {-2, 0}, {-16, 0}, {-most, 0}, {-most - 1, 0},
		{math.MaxInt32, most}, {math.MaxInt32 + 1, most}, {1 << 32, most}, {1<<32 + 5, most}, {math.MaxInt - 1, most}, {math.MaxInt, most},
		{math.MinInt32, 0}, {math.MinInt32 - 1, 0}, {-1 << 32, 0}, {-1<<32 + 5, 0}, {math.MinInt + 1, 0}, {math.MinInt, 0},
	} {
		r := ring.New[int](x.room)
		if r.Room() != x.want || r.Len() != 0 || len(r.List()) != 0 {
			t.Errorf("New(%d): room %d, not %d; %d: %v", x.room, r.Room(), x.want, r.Len(), r.List())
		}
		newBoth[string](t, x.room).same()
	}
}

// P5.1: a ring with no room takes nothing, as often as it is asked.
func TestNoRoom(t *testing.T) {
	for _, room := range []int{0, -1, -most, math.MinInt} {
		b := newBoth[int](t, room)
		for i := range 5 {
			b.push(i + 1)
			b.same()
			b.pop()
			b.same()
		}
	}
}

// P5.1, P5.2: with a room for one a thing comes in when there is none, and is the next one out.
func TestRoomForOne(t *testing.T) {
	b := newBoth[int](t, 1)
	b.pop()
	for i := range 50 {
		b.push(i + 1)
		b.push(-1)
		b.same()
		b.pop()
		b.same()
		b.pop()
	}
}

// P5.1, P5.2: rings that are full and empty again and again, from each place at
// which a line can begin; whatever was pushed to a full one isn't in it.
func TestFullAndEmpty(t *testing.T) {
	for room := range 20 {
		b := newBoth[int](t, room)
		next := 1
		push := func() {
			b.push(next)
			next++
		}
		for range 3*room + 3 {
			for range room + 2 {
				push()
				b.same()
			}
			for range room + 2 {
				b.pop()
				b.same()
			}
			push() // one in and out: the next line begins a place on
			b.pop()
		}
	}
}

// P5.1, P5.2: a full line that goes round and round: one out, one in.
func TestRound(t *testing.T) {
	for _, room := range []int{1, 2, 3, 4, 5, 7, 8, 15, 16, 17, 31, 32, 33, 100} {
		b := newBoth[int](t, room)
		for i := range room {
			b.push(i + 1)
		}
		for i := range 3*room + 2 {
			b.pop()
			b.push(room + i + 1)
			b.push(-1)
			b.same()
		}
	}
}

// P5.1, P5.2: lines of each length that go round in a ring with more room.
func TestRoundShort(t *testing.T) {
	for _, room := range []int{2, 3, 5, 9, 16, 40} {
		for n := range room {
			b := newBoth[int](t, room)
			for i := range n {
				b.push(i + 1)
			}
			for i := range 3 * room {
				b.push(n + i + 1)
				b.same()
				b.pop()
				b.same()
			}
		}
	}
}

// P5.1, P5.2: a line whose eldest is anywhere, and which then gets as long as may be.
func TestLengthenedFromAnywhere(t *testing.T) {
	const room = 37
	for before := range room + 1 {
		for gone := range before + 1 {
			b := newBoth[int](t, room)
			for i := range before {
				b.push(i + 1)
			}
			for range gone {
				b.pop()
			}
			for i := range room + 1 {
				b.push(1000 + i)
			}
			b.same()
			for range room + 1 {
				b.pop()
			}
			b.same()
		}
	}
}

// chance makes numbers that are alike in each run.
type chance uint64

func (c *chance) next(n int) int {
	*c = *c*6364136223846793005 + 1442695040888963407
	return int(*c>>33) % n
}

// many pushes and pops, more of the one and more of the other by turns.
func many[V comparable](t *testing.T, room int, thing func(n int) V) {
	t.Helper()
	b := newBoth[V](t, room)
	c := chance(room)
	for i := range 4000 {
		of := 3 + 4*(i/300%2) // of ten, so many are pushes
		if c.next(10) < of {
			b.push(thing(i))
		} else {
			b.pop()
		}
		if i%7 == 0 {
			b.same()
		}
	}
}

// pair is a thing of two parts.
type pair struct {
	n    int
	text string
}

// P5.1, P5.2: things of many types, noughts among them: what a ring holds is told
// by how many there are, not by what they are.
func TestTypes(t *testing.T) {
	for _, room := range []int{0, 1, 2, 3, 10, 64, 1000} {
		many(t, room, func(n int) int { return n % 3 })
		many(t, room, func(n int) bool { return n%3 == 0 })
		many(t, room, func(n int) byte { return byte(n) })
		many(t, room, func(n int) string { return fmt.Sprint("thing ", n) })
		many(t, room, func(n int) string { return "" })
		many(t, room, func(n int) float64 { return float64(n) / 2 })
		many(t, room, func(n int) complex64 { return complex(float32(n), -1) })
		many(t, room, func(n int) pair { return pair{n, fmt.Sprint(n)} })
		many(t, room, func(n int) [3]uint16 { return [3]uint16{uint16(n), 1, uint16(n)} })
		many(t, room, func(n int) struct{} { return struct{}{} })
		many(t, room, func(n int) *int { return new(int) })
		many(t, room, func(n int) *int { return nil })
		many(t, room, func(n int) error { return nil })
		many(t, room, func(n int) any {
			if n%2 == 0 {
				return n
			}
			return fmt.Sprint(n)
		})
	}
}

// P5.1, P5.2: things that can't be held against each other: slices, maps and functions.
func TestTypesApart(t *testing.T) {
	s, m, f := ring.New[[]int](2), ring.New[map[string]int](2), ring.New[func() int](2)
	for i := range 10 {
		if !s.Push([]int{i, i}) || !m.Push(map[string]int{"i": i}) || !f.Push(func() int { return i }) {
			t.Fatalf("%d: Push is false", i)
		}
		if l, ok := s.At(0); !slices.Equal(l, []int{i, i}) || !ok {
			t.Errorf("%d: At(0): %v %v", i, l, ok)
		}
		if l, ok := s.Pop(); !slices.Equal(l, []int{i, i}) || !ok {
			t.Errorf("%d: Pop: %v %v", i, l, ok)
		}
		if x, ok := m.Pop(); len(x) != 1 || x["i"] != i || !ok {
			t.Errorf("%d: Pop: %v %v", i, x, ok)
		}
		if x, ok := f.Pop(); !ok || x() != i {
			t.Errorf("%d: Pop of a function: %v", i, ok)
		}
	}
	if l, ok := s.Pop(); l != nil || ok {
		t.Errorf("Pop: %v %v", l, ok)
	}
	if x, ok := m.At(0); x != nil || ok {
		t.Errorf("At(0): %v %v", x, ok)
	}
	if x, ok := f.Pop(); x != nil || ok {
		t.Errorf("Pop of a function: %v", ok)
	}
}

// P5.2: NaN, which isn't itself, goes through a ring like all else.
func TestNan(t *testing.T) {
	r := ring.New[float64](3)
	r.Push(1)
	r.Push(math.NaN())
	r.Push(2)
	var l []float64
	for v, ok := r.Pop(); ok; v, ok = r.Pop() {
		l = append(l, v)
	}
	if len(l) != 3 || l[0] != 1 || !math.IsNaN(l[1]) || l[2] != 2 {
		t.Errorf("%v, not 1, NaN, 2", l)
	}
}

// P5.1, P5.2: the greatest room, full and empty twice, beginning within the line.
func TestGreatestRoom(t *testing.T) {
	for _, room := range []int{most - 1, most, most + 1, math.MaxInt} {
		b := newBoth[int](t, room)
		for i := range 40000 {
			b.push(-i)
		}
		for range 39999 {
			b.pop()
		}
		for round := range 2 {
			for i := range most + 2 {
				b.push(round*100000 + i)
			}
			b.same()
			for range 1000 {
				b.pop()
				b.push(7)
			}
			b.same()
			for range most + 2 {
				b.pop()
			}
			b.same()
		}
	}
}

// P5.1, P5.2: rings are apart from one another.
func TestApart(t *testing.T) {
	a, b := newBoth[int](t, 3), newBoth[int](t, 3)
	for i := range 20 {
		a.push(i)
		b.push(100 + i)
		if i%2 == 1 {
			a.pop()
		}
		if i%3 == 1 {
			b.pop()
		}
		a.same()
		b.same()
	}
}

// fill a list and the room behind it.
func fill(l []int, v int) {
	l = l[:cap(l)]
	for i := range l {
		l[i] = v
	}
}

// P5.1: List is new memory, the room behind it too: it shares nothing with the
// ring, nor with another list, before and after further pushes, wherever the line begins.
func TestListIsNew(t *testing.T) {
	for room := range 12 {
		for length := range room + 1 {
			for begin := range room + 1 {
				b := newBoth[int](t, room)
				for range begin {
					b.push(-5)
					b.pop()
				}
				for i := range length {
					b.push(i + 1)
				}
				first, second := b.ring.List(), b.ring.List()
				want := slices.Clone(first)
				fill(first, -1)
				b.same()
				if !slices.Equal(second, want) {
					t.Fatalf("room %d: a list was changed by another: %v, not %v", room, second, want)
				}
				for i := range room + 2 { // what comes and goes changes no list that was told
					b.push(50 + i)
					b.pop()
					b.push(70 + i)
				}
				if !slices.Equal(second, want) {
					t.Fatalf("room %d: a list was changed by a push: %v, not %v", room, second, want)
				}
				for range room {
					b.push(9)
					fill(b.ring.List(), -2)
					fill(second, -3)
					b.same()
					b.pop()
				}
			}
		}
	}
}

// P5.1: asking changes nothing.
func TestAsking(t *testing.T) {
	b := newBoth[string](t, 4)
	for i := range 9 {
		b.push(fmt.Sprint(i))
		for range 3 {
			b.same()
		}
		if i%3 == 2 {
			b.pop()
		}
	}
}

// nilRing holds all calls on a nil ring of a type.
func nilRing[V any](t *testing.T, v V) {
	t.Helper()
	var r *ring.Ring[V]
	for range 2 {
		if r.Push(v) {
			t.Errorf("%T: Push of a nil ring is true", v)
		}
		if got, ok := r.Pop(); !reflect.ValueOf(&got).Elem().IsZero() || ok {
			t.Errorf("%T: Pop of a nil ring: %v %v", v, got, ok)
		}
		for _, i := range append([]int{0, 1, 2, 15, 16, most - 1}, noPlaces...) {
			if got, ok := r.At(i); !reflect.ValueOf(&got).Elem().IsZero() || ok {
				t.Errorf("%T: At(%d) of a nil ring: %v %v", v, i, got, ok)
			}
		}
		if r.Len() != 0 || r.Room() != 0 {
			t.Errorf("%T: Len and Room of a nil ring: %d, %d", v, r.Len(), r.Room())
		}
		if l := r.List(); len(l) != 0 {
			t.Errorf("%T: List of a nil ring: %v", v, l)
		}
	}
}

// P5.2: a nil ring: false, the zero V, 0, none.
func TestNil(t *testing.T) {
	nilRing(t, 7)
	nilRing(t, "text")
	nilRing(t, true)
	nilRing(t, pair{1, "x"})
	nilRing(t, [2]int{1, 2})
	nilRing(t, struct{}{})
	nilRing(t, []int{1})
	nilRing(t, new(int))
	nilRing[any](t, 3)
	nilRing[error](t, nil)
}

// P5.1: a ring takes memory for the things that it has, not for its room: great
// things, of which there is no memory for as many as that.
func TestGreatThings(t *testing.T) {
	type great [1 << 24]byte
	r := ring.New[great](most)
	var v great
	for i := range 3 {
		v[0], v[len(v)-1] = byte(i), byte(i+1)
		if !r.Push(v) {
			t.Fatalf("Push %d is false", i)
		}
	}
	if r.Len() != 3 || r.Room() != most {
		t.Errorf("%d of %d", r.Len(), r.Room())
	}
	for i := range 3 {
		if g, ok := r.Pop(); g[0] != byte(i) || g[len(g)-1] != byte(i+1) || !ok {
			t.Errorf("Pop %d: %d %d %v", i, g[0], g[len(g)-1], ok)
		}
	}
}

// pushed lays things into a ring of which nobody else knows, and tells them weakly.
func pushed(r *ring.Ring[*[4096]byte], n int) []weak.Pointer[[4096]byte] {
	var l []weak.Pointer[[4096]byte]
	for range n {
		v := new([4096]byte)
		r.Push(v)
		l = append(l, weak.Make(v))
	}
	return l
}

// P5.2: popped once, a thing is in the ring no more: it isn't kept from being let go.
func TestPoppedIsLetGo(t *testing.T) {
	const n = 20
	r := ring.New[*[4096]byte](n)
	for round := range 3 {
		l := pushed(r, n)
		for range n / 2 {
			r.Pop()
		}
		kept := func() int {
			k := 0
			for _, p := range l {
				if p.Value() != nil {
					k++
				}
			}
			return k
		}
		for i := 0; i < 100 && kept() > n-n/2; i++ {
			runtime.GC()
		}
		if k := kept(); k != n-n/2 {
			t.Errorf("round %d: of %d things, %d of them popped, %d are kept", round, n, n/2, k)
		}
		for range n {
			r.Pop()
		}
	}
	runtime.KeepAlive(r)
}
