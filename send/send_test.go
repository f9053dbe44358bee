package send_test

import (
	"bytes"
	"fmt"
	"math"
	"slices"
	"strings"
	"testing"

	"runrig/api"
	"runrig/send"
)

const (
	mostWindow = 64
	mostWait   = 1000
	mostData   = 4120
	mostTick   = 1 << 40

	greatest = math.MaxUint64
)

// farInts are numbers at the ends of int, and such as are lesser ones in fewer bits.
var farInts = []int{
	math.MaxInt, math.MaxInt - 1, math.MaxInt / 2, math.MinInt, math.MinInt + 1, math.MinInt + 64, math.MinInt / 2, math.MaxInt32, math.MaxInt32 + 1,
	math.MinInt32, math.MinInt32 - 1, 1<<31 + 3, 1<<32 + 3, -1<<32 + 3, 1 << 62, 1<<62 + 3, 256 + 3, 65536 + 3, -256 + 3, -65536 + 3,
}

// earlyTicks count as 0, lateTicks as 2^40.
var (
	earlyTicks = []int{-1, -2, -1000, -mostTick, -mostTick - 1, -1<<32 + 3, math.MinInt, math.MinInt + 1, math.MinInt + 3, math.MinInt / 2}
	lateTicks  = []int{mostTick + 1, mostTick + 2, mostTick + 1000, 2 * mostTick, 1<<41 + 5, 1 << 62, math.MaxInt, math.MaxInt - 1, math.MaxInt - 1000}
)

// row has these bytes and spare room behind them that isn't theirs.
func row(b []byte) []byte {
	return append(slices.Clone(b), bytes.Repeat([]byte{0x9d}, 20)...)[:len(b)]
}

// filled has n bytes of all kinds, others for each start.
func filled(n, start int) []byte {
	b := make([]byte, n)
	for i := range b {
		b[i] = byte(start + 29*i + i*i/7)
	}
	return row(b)
}

// name is a body that tells its number.
func name(i int) []byte {
	return row(fmt.Appendf(nil, "body %d", i))
}

// spoil lays other bytes over a row and over its spare room.
func spoil(b []byte) {
	b = b[:cap(b)]
	for i := range b {
		b[i] ^= 0xa5
	}
}

// brief tells bytes in few words.
func brief(b []byte) string {
	if len(b) > 12 {
		return fmt.Sprintf("%d bytes %q..", len(b), b[:12])
	}
	return fmt.Sprintf("%q", b)
}

// told are items as a text.
func told(l []api.Item) string {
	var s []string
	for _, x := range l {
		s = append(s, fmt.Sprintf("%d %s", x.Seq, brief(x.Data)))
	}
	return strings.Join(s, ", ")
}

// sameItems tells whether lists of items are alike, item by item.
func sameItems(a, b []api.Item) bool {
	return slices.EqualFunc(a, b, func(x, y api.Item) bool { return x.Seq == y.Seq && string(x.Data) == string(y.Data) })
}

// Where a body is.
const (
	waiting = iota
	going
	gone
)

// body that was offered.
type body struct {
	data string
	is   int
	sent int // how often
	last int // the tick when it was sent last
}

// model of a sender: all bodies that were ever offered, the first of them that of number 1.
type model struct {
	window, wait, longest int
	bodies                []body
}

// due tick of a body: its wait is doubled with each time it was sent but the first, up to the longest.
func (m *model) due(b body) int {
	w := m.wait
	for i := 1; i < b.sent && w < m.longest; i++ {
		w += w
	}
	if w > m.longest {
		w = m.longest
	}
	return b.last + w
}

// count of the bodies that are so.
func (m *model) count(is int) int {
	n := 0
	for _, b := range m.bodies {
		if b.is == is {
			n++
		}
	}
	return n
}

// next number: those that don't wait any more have the ones ahead of it.
func (m *model) next() uint64 {
	return uint64(1 + m.count(going) + m.count(gone))
}

// least tick when a body is due.
func (m *model) least() (int, bool) {
	l, ok := 0, false
	for _, b := range m.bodies {
		if b.is == going && (!ok || m.due(b) < l) {
			l, ok = m.due(b), true
		}
	}
	return l, ok
}

// send the i-th body.
func (m *model) send(i, now int) api.Item {
	b := &m.bodies[i]
	b.is, b.sent, b.last = going, b.sent+1, now
	return api.Item{Seq: uint64(i + 1), Data: []byte(b.data)}
}

// out tells what is sent at a tick.
func (m *model) out(now int) []api.Item {
	if now < 0 {
		now = 0
	} else if now > mostTick {
		now = mostTick
	}
	var again, fresh []int
	room := m.window - m.count(going)
	for i, b := range m.bodies {
		if b.is == going && m.due(b) <= now {
			again = append(again, i)
		}
		if b.is == waiting && len(fresh) < room {
			fresh = append(fresh, i)
		}
	}
	var l []api.Item
	for _, i := range append(again, fresh...) {
		l = append(l, m.send(i, now))
	}
	return l
}

// acked tells how many have come.
func (m *model) acked(ack uint64) int {
	n := 0
	if ack > m.next() {
		return n
	}
	for i, b := range m.bodies {
		if b.is == going && uint64(i+1) < ack {
			m.bodies[i].is = gone
			n++
		}
	}
	return n
}

// pair of a sender and its model: what is done to one is done to the other.
type pair struct {
	t *testing.T
	s *send.Sender
	m *model
}

// newPair is one of new ones.
func newPair(t *testing.T, window, wait, longest int) pair {
	t.Helper()
	s, e := send.New(window, wait, longest)
	if s == nil || e != api.OK {
		t.Fatalf("New(%d, %d, %d): %v", window, wait, longest, e)
	}
	p := pair{t, s, &model{window: window, wait: wait, longest: longest}}
	p.is("new")
	return p
}

// is holds that the sender is as its model.
func (p pair) is(why string) {
	p.t.Helper()
	if p.s.Line() != p.m.count(waiting) || p.s.Flight() != p.m.count(going) || p.s.Next() != p.m.next() {
		p.t.Fatalf("%s: line %d, flight %d, next %d, not %d, %d, %d", why, p.s.Line(), p.s.Flight(), p.s.Next(), p.m.count(waiting), p.m.count(going), p.m.next())
	}
	if p.s.Flight() > p.m.window || p.m.count(waiting)+p.m.count(going)+p.m.count(gone) != len(p.m.bodies) {
		p.t.Fatalf("%s: %d of a window of %d are under way", why, p.s.Flight(), p.m.window)
	}
	d, ok := p.s.Due()
	if want, there := p.m.least(); d != want || ok != there {
		p.t.Fatalf("%s: due %d %v, not %d %v", why, d, ok, want, there)
	}
}

// offer a body, in a slice that becomes another one as soon as it is handed in.
func (p pair) offer(b []byte) {
	p.t.Helper()
	mine := row(b)
	was := slices.Clone(mine[:cap(mine)])
	if want := len(b) < mostData+1; p.s.Offer(mine) != want {
		p.t.Fatalf("Offer of %s isn't %v", brief(b), want)
	} else if want {
		p.m.bodies = append(p.m.bodies, body{data: string(b)})
	}
	if !bytes.Equal(mine[:cap(mine)], was) {
		p.t.Fatalf("Offer of %s changes it", brief(b))
	}
	spoil(mine)
	p.is(fmt.Sprintf("Offer of %s", brief(b)))
}

// offers so many bodies, each of which tells its number.
func (p pair) offers(n int) {
	p.t.Helper()
	for range n {
		p.offer(name(len(p.m.bodies) + 1))
	}
}

// out holds what is sent at a tick, and answers it; what was answered becomes other bytes.
func (p pair) out(now int) []api.Item {
	p.t.Helper()
	l := p.s.Out(now)
	want := p.m.out(now)
	if !sameItems(l, want) {
		p.t.Fatalf("Out(%d): %s, not %s", now, told(l), told(want))
	}
	for i := range l {
		spoil(l[i].Data)
		l[i] = api.Item{Seq: greatest - 3, Data: []byte("another")}
	}
	l = l[:cap(l)]
	for i := range l {
		l[i] = api.Item{Seq: 5, Data: []byte("none")}
	}
	p.is(fmt.Sprintf("Out(%d)", now))
	return want
}

// sends holds that those numbers alone are sent at a tick.
func (p pair) sends(now int, numbers ...uint64) {
	p.t.Helper()
	l := p.out(now)
	if !slices.EqualFunc(l, numbers, func(x api.Item, n uint64) bool { return x.Seq == n }) {
		p.t.Fatalf("Out(%d): %s, not %v", now, told(l), numbers)
	}
}

// acked holds how many have come.
func (p pair) acked(ack uint64) int {
	p.t.Helper()
	n := p.s.Acked(ack)
	if want := p.m.acked(ack); n != want {
		p.t.Fatalf("Acked(%d): %d, not %d", ack, n, want)
	}
	p.is(fmt.Sprintf("Acked(%d)", ack))
	return n
}

// acks holds that so many have come.
func (p pair) acks(ack uint64, n int) {
	p.t.Helper()
	if got := p.acked(ack); got != n {
		p.t.Fatalf("Acked(%d): %d, not %d", ack, got, n)
	}
}

// has holds what the sender tells of itself; a due tick below 0: there is none.
func (p pair) has(line, flight int, next uint64, due int) {
	p.t.Helper()
	d, ok := p.s.Due()
	if p.s.Line() != line || p.s.Flight() != flight || p.s.Next() != next || ok != (due >= 0) || d != max(due, 0) {
		p.t.Fatalf("line %d, flight %d, next %d, due %d %v, not %d, %d, %d, %d", p.s.Line(), p.s.Flight(), p.s.Next(), d, ok, line, flight, next, due)
	}
}

// isNew holds New of three numbers.
func isNew(t *testing.T, window, wait, longest int, want bool) {
	t.Helper()
	s, e := send.New(window, wait, longest)
	if want && (s == nil || e != api.OK) || !want && (s != nil || e != api.ErrArg) {
		t.Errorf("New(%d, %d, %d): %v %v", window, wait, longest, s != nil, e)
	}
}

// P17.1: each of New's three numbers just inside and just outside its bounds, the others being right.
func TestNewBounds(t *testing.T) {
	for _, x := range []struct {
		window, wait, longest int
		ok                    bool
	}{
		{1, 1, 1, true}, {64, 1, 1, true}, {2, 1, 1, true}, {63, 5, 9, true}, {64, 1000, 1000, true}, {1, 1, 1000, true}, {1, 1000, 1000, true},
		{1, 999, 1000, true}, {1, 999, 999, true}, {32, 500, 501, true}, {1, 3, 4, true}, {1, 700, 999, true},
		{0, 1, 1, false}, {65, 1, 1, false}, {-1, 1, 1, false}, {66, 1, 1, false}, {128, 1, 1, false}, {1000, 1, 1, false}, {-64, 1, 1, false},
		{1, 0, 0, false}, {1, 0, 1, false}, {1, 0, 1000, false}, {1, -1, -1, false}, {1, -1, 5, false}, {1, -5, 1000, false}, {1, -1000, -1, false},
		{1, 1001, 1001, false}, {1, 1001, 1000, false}, {1, 1001, 1002, false}, {1, 2000, 2000, false}, {1, 1024, 1024, false},
		{1, 1, 0, false}, {1, 2, 1, false}, {1, 1000, 999, false}, {1, 500, 499, false}, {1, 5, -5, false}, {1, 1, 1001, false}, {1, 1000, 1001, false},
		{1, 1, 1024, false}, {1, 3, 2, false}, {64, 64, 63, false},
		{0, 0, 0, false}, {65, 1001, 1001, false}, {0, 1001, 1000, false}, {65, 0, 1001, false}, {-1, -1, -1, false},
	} {
		isNew(t, x.window, x.wait, x.longest, x.ok)
	}
}

// P17.1: New's numbers, all by all: at and beside the bounds, below 0, and near the ends of int.
func TestNewAll(t *testing.T) {
	l := append([]int{-1001, -1000, -65, -64, -2, -1, 0, 1, 2, 3, 62, 63, 64, 65, 66, 127, 128, 499, 998, 999, 1000, 1001, 1002, 1023, 1024, 4096}, farInts...)
	for _, window := range l {
		for _, wait := range l {
			for _, longest := range l {
				right := true
				switch {
				case window < 1 || window > mostWindow:
					right = false
				case wait < 1 || wait > mostWait:
					right = false
				case longest < wait || longest > mostWait:
					right = false
				}
				isNew(t, window, wait, longest, right)
			}
		}
	}
}

// P17.1: a new sender has no bodies: none stands in the line, none is under way, none is due, the first is 1.
func TestNewHasNone(t *testing.T) {
	for _, x := range [][3]int{{1, 1, 1}, {64, 1000, 1000}, {7, 3, 20}} {
		p := newPair(t, x[0], x[1], x[2])
		p.has(0, 0, 1, -1)
		for _, now := range slices.Concat([]int{0, 1, 1000, mostTick}, earlyTicks, lateTicks) {
			p.sends(now)
		}
		for _, ack := range []uint64{0, 1, 2, 64, 1 << 32, 1 << 63, greatest} {
			p.acks(ack, 0)
		}
		p.has(0, 0, 1, -1)
		p.offers(1)
		p.sends(0, 1)
		p.has(0, 1, 2, x[1])
	}
}

// sizes of bodies: of no bytes, of few, and up to the most.
var sizes = []int{0, 1, 2, 3, 15, 16, 17, 255, 256, 257, 1000, 4095, 4096, 4097, 4103, mostData - 2, mostData - 1, mostData}

// P17.1: bodies of up to MostData bytes stand in the line, and are sent as they were.
func TestOffer(t *testing.T) {
	p := newPair(t, 64, 5, 9)
	for i, n := range sizes {
		p.offer(filled(n, i))
		p.has(i+1, 0, 1, -1)
	}
	l := p.out(3)
	p.has(0, len(sizes), uint64(len(sizes)+1), 8)
	for i, n := range sizes {
		if l[i].Seq != uint64(i+1) || !bytes.Equal(l[i].Data, filled(n, i)) {
			t.Errorf("%d: %s", n, brief(l[i].Data))
		}
	}
	p.out(8)
}

// P17.1: no bytes are a body as others are, nil and empty alike.
func TestOfferNone(t *testing.T) {
	s, _ := send.New(2, 1, 1)
	for _, b := range [][]byte{nil, {}, row(nil), filled(5, 0)[:0]} {
		if !s.Offer(b) {
			t.Fatal("no bytes are refused")
		}
	}
	if s.Line() != 4 {
		t.Fatalf("line %d", s.Line())
	}
	for _, want := range []string{`1 "", 2 ""`, `3 "", 4 ""`} {
		if got := told(s.Out(7)); got != want {
			t.Errorf("%s, not %s", got, want)
		}
		s.Acked(s.Next())
	}
}

// P17.1: bodies of more than MostData bytes are refused, which changes nothing.
func TestOfferTooMany(t *testing.T) {
	p := newPair(t, 3, 2, 7)
	for i, n := range []int{mostData + 1, mostData + 2, 4128, 8192, 2 * mostData, 65535, 65536, 65537, 65536 + mostData, 65536 + mostData + 1, 1 << 20} {
		for _, b := range [][]byte{filled(n, 3), make([]byte, n)} {
			line, flight, next := p.s.Line(), p.s.Flight(), p.s.Next()
			due, ok := p.s.Due()
			p.offer(b)
			if d, k := p.s.Due(); p.s.Line() != line || p.s.Flight() != flight || p.s.Next() != next || d != due || k != ok {
				t.Fatalf("Offer of %d bytes changes the sender", n)
			}
		}
		p.offers(1)
		p.out(i)
		p.acked(uint64(i))
	}
	for now := range 60 {
		p.out(now)
		p.acked(uint64(now / 2))
	}
	p.has(0, 0, 12, -1)
}

// P17.1: a body stays as it was offered, whatever becomes of the slice: in the line, under way, and between.
func TestOfferKeeps(t *testing.T) {
	for _, n := range []int{1, 2, 100, 4096, mostData} {
		s, _ := send.New(2, 1, 1)
		b := filled(n, 1)
		s.Offer(b)
		s.Offer(b)
		spoil(b)
		s.Offer(b)
		c := slices.Clone(b)
		for now := range 4 {
			spoil(b)
			l := s.Out(now)
			if len(l) != 2 || !bytes.Equal(l[0].Data, filled(n, 1)) || !bytes.Equal(l[1].Data, filled(n, 1)) {
				t.Fatalf("%d bytes at %d: %s", n, now, told(l))
			}
		}
		spoil(b)
		s.Acked(3)
		if l := s.Out(4); len(l) != 1 || !bytes.Equal(l[0].Data, c) {
			t.Fatalf("%d bytes: %s", n, told(l))
		}
	}
}

// P17.2: what Out answers shares no memory with the sender, nor among itself, its spare room included.
func TestOutIsNew(t *testing.T) {
	for _, n := range []int{1, 3, 8, 100, mostData} {
		s, _ := send.New(4, 1, 2)
		for i := range 6 {
			s.Offer(filled(n, i))
		}
		for now := range 9 {
			l := s.Out(now)
			for i := range l {
				if want := filled(n, int(l[i].Seq)-1); !bytes.Equal(l[i].Data, want) {
					t.Fatalf("at %d: %s, not %s", now, brief(l[i].Data), brief(want))
				}
				spoil(l[i].Data)
				l[i].Seq, l[i].Data = 77, nil
			}
			for i := range l[:cap(l)] {
				l[:cap(l)][i] = api.Item{Seq: 1 << 50, Data: []byte{1}}
			}
			if s.Flight() != 4 || s.Line() != 2 || s.Next() != 5 {
				t.Fatalf("flight %d, line %d, next %d", s.Flight(), s.Line(), s.Next())
			}
		}
		if s.Acked(3) != 2 || s.Acked(5) != 2 {
			t.Fatal("those under way are others")
		}
	}
}

// P17.2: an answer's items stay as they are, whatever is done to the sender behind it.
func TestOutStays(t *testing.T) {
	s, _ := send.New(3, 1, 1)
	for i := range 5 {
		s.Offer(name(i + 1))
	}
	first := s.Out(0)
	was := told(first)
	again := s.Out(5)
	s.Acked(3)
	s.Offer(name(6))
	s.Out(6)
	s.Acked(s.Next())
	s.Out(9)
	if told(first) != was || told(again) != was || was != `1 "body 1", 2 "body 2", 3 "body 3"` {
		t.Errorf("%s; %s; %s", was, told(first), told(again))
	}
}

// P17.2: ticks below 0 count as 0.
func TestOutEarly(t *testing.T) {
	for _, now := range earlyTicks {
		p := newPair(t, 2, 1, 100)
		p.offers(3)
		p.sends(now, 1, 2)
		p.has(1, 2, 3, 1)
		p.sends(now)
		p.sends(0)
		p.sends(1, 1, 2)
		p.has(1, 2, 3, 3)
		p.sends(now)
		p.acks(2, 1)
		p.sends(now, 3)
		p.has(0, 2, 4, 1)
		p.sends(now)
	}
}

// P17.2: ticks above 2^40 count as that one, so what is under way then is never due again.
func TestOutLate(t *testing.T) {
	for _, now := range lateTicks {
		p := newPair(t, 2, 1, 100)
		p.offers(3)
		p.sends(now, 1, 2)
		p.has(1, 2, 3, mostTick+1)
		p.sends(now)
		p.sends(mostTick)
		p.sends(mostTick + 1)
		p.sends(math.MaxInt)
		p.acks(2, 1)
		p.sends(now, 3)
		p.has(0, 2, 4, mostTick+1)
	}
}

// P17.2: at 2^40 and just below it ticks are themselves.
func TestOutAtMostTick(t *testing.T) {
	p := newPair(t, 3, 2, 1000)
	p.offers(1)
	p.sends(mostTick-3, 1)
	p.has(0, 1, 2, mostTick-1)
	p.offers(1)
	p.sends(mostTick-2, 2)
	p.has(0, 2, 3, mostTick-1)
	p.sends(mostTick-1, 1) // due at 2^40 + 3 from now on
	p.has(0, 2, 3, mostTick)
	p.offers(1)
	p.sends(mostTick, 2, 3)
	p.has(0, 3, 4, mostTick+2)
	for _, now := range lateTicks {
		p.sends(now)
	}
	p.has(0, 3, 4, mostTick+2)
	for _, longest := range []int{1, 2, 3, 1000} {
		p = newPair(t, 1, 1, longest)
		p.offers(1)
		p.sends(mostTick-1, 1)
		p.has(0, 1, 2, mostTick)
		p.sends(math.MaxInt, 1)
		p.has(0, 1, 2, mostTick+min(2, longest))
	}
}

// P17.2: ticks of all kinds at which a body is sent first and again; it is due just so many ticks later.
func TestOutTicks(t *testing.T) {
	for _, at := range []int{0, 1, 2, 3, 100, 1<<31 - 1, 1 << 31, 1<<32 - 1, 1 << 32, 1<<32 + 1, mostTick - 2000} {
		for _, w := range [][2]int{{1, 1}, {1, 2}, {7, 30}, {1000, 1000}, {1, 1000}} {
			p := newPair(t, 1, w[0], w[1])
			p.offers(1)
			p.sends(at, 1)
			due := at + w[0]
			p.has(0, 1, 2, due)
			p.sends(due - 1)
			p.sends(due, 1)
			again := due + min(2*w[0], w[1])
			p.has(0, 1, 2, again)
			p.sends(again - 1)
			p.sends(due)
			p.has(0, 1, 2, again)
			p.sends(mostTick, 1)
			p.has(0, 1, 2, mostTick+min(4*w[0], w[1]))
		}
	}
}

// P17.2: at a tick ahead of an earlier one nothing that waits is due, and what is new is due from there on.
func TestOutBack(t *testing.T) {
	p := newPair(t, 3, 4, 10)
	p.offers(1)
	p.sends(1000, 1)
	p.offers(1)
	p.sends(5, 2)
	p.has(0, 2, 3, 9)
	p.sends(8)
	p.sends(9, 2)
	p.has(0, 2, 3, 17)
	p.offers(1)
	p.sends(0, 3)
	p.has(0, 3, 4, 4)
	p.sends(16, 3)
	p.sends(1004, 1, 2, 3)
	p.has(0, 3, 4, 1012)
	p.sends(17)
	p.sends(-3)
	p.sends(1011)
	p.sends(1012, 1)
	p.sends(1013)
	p.sends(1014, 2, 3)
}

// P17.2: twice at one tick nothing is sent again, but what has come into the line since.
func TestOutTwice(t *testing.T) {
	for _, now := range []int{0, 1, 50, mostTick, -1, math.MaxInt} {
		p := newPair(t, 4, 1, 1)
		p.offers(2)
		p.sends(now, 1, 2)
		p.sends(now)
		p.offers(1)
		p.sends(now, 3)
		p.sends(now)
		p.offers(2)
		p.sends(now, 4)
		p.acks(2, 1)
		p.sends(now, 5)
		p.sends(now)
	}
	p := newPair(t, 2, 1, 1)
	p.offers(2)
	for now := range 20 {
		p.sends(now, 1, 2)
		p.sends(now)
	}
}

// P17.2: bodies that are due just now, a tick earlier and a tick later, all under way at once.
func TestOutDue(t *testing.T) {
	p := newPair(t, 5, 3, 3)
	for now := range 5 {
		p.offers(1)
		if now < 3 {
			p.sends(now, uint64(now+1))
		}
	}
	// 1, 2 and 3 are due at 3, 4 and 5.
	p.sends(4, 1, 2, 4, 5)
	p.has(0, 5, 6, 5)
	p.sends(4)
	p.sends(5, 3)
	p.sends(6)
	p.sends(7, 1, 2, 4, 5)
	p.sends(7)
	p.sends(8, 3)
	p.has(0, 5, 6, 10)
}

// P17.2: what is due goes first, in the order of its numbers, not of its ticks; then what is new.
func TestOutOrder(t *testing.T) {
	p := newPair(t, 6, 5, 40)
	p.offers(1)
	p.sends(30, 1) // due at 35
	p.offers(1)
	p.sends(20, 2) // at 25
	p.offers(1)
	p.sends(10, 3) // at 15
	p.offers(4)
	p.sends(35, 1, 2, 3, 4, 5, 6)
	p.has(1, 6, 7, 40) // 4, 5 and 6 at 40; 1, 2 and 3 at 45
	p.sends(40, 4, 5, 6)
	p.sends(45, 1, 2, 3)
	p.acks(4, 3)
	p.offers(1)
	p.sends(50, 4, 5, 6, 7, 8)
	p.has(0, 5, 9, 55)
	p.sends(54)
	p.sends(55, 7, 8)
	p.sends(100, 4, 5, 6, 7, 8)
}

// P17.2: what is due leaves no less room: a full window takes nothing new, one with room takes just as many.
func TestOutRoom(t *testing.T) {
	for window := 1; window <= mostWindow; window++ {
		p := newPair(t, window, 1, 1)
		p.offers(window - 1)
		if l := p.out(0); len(l) != window-1 {
			t.Fatalf("%d of %d", len(l), window-1)
		}
		p.offers(3)
		if l := p.out(1); len(l) != window {
			t.Fatalf("%d of %d", len(l), window)
		}
		p.has(2, window, uint64(window+1), 2)
		for now := 2; now < 5; now++ {
			if l := p.out(now); len(l) != window {
				t.Fatalf("%d of %d", len(l), window)
			}
		}
		p.has(2, window, uint64(window+1), 5)
	}
}

// P17.2: a wait is doubled up to the longest one and no further: no double of the first one, one, or it itself.
func TestWaitDoubles(t *testing.T) {
	for _, x := range []struct {
		wait, longest int
		waits         []int
	}{
		{2, 3, []int{2, 3, 3, 3}},
		{1, 1, []int{1, 1, 1, 1}},
		{1, 2, []int{1, 2, 2, 2}},
		{1, 3, []int{1, 2, 3, 3}},
		{1, 8, []int{1, 2, 4, 8, 8, 8}},
		{1, 7, []int{1, 2, 4, 7, 7}},
		{1, 9, []int{1, 2, 4, 8, 9, 9}},
		{3, 10, []int{3, 6, 10, 10}},
		{5, 40, []int{5, 10, 20, 40, 40}},
		{5, 41, []int{5, 10, 20, 40, 41, 41}},
		{5, 39, []int{5, 10, 20, 39, 39}},
		{6, 7, []int{6, 7, 7}},
		{1, 1000, []int{1, 2, 4, 8, 16, 32, 64, 128, 256, 512, 1000, 1000}},
		{499, 1000, []int{499, 998, 1000, 1000}},
		{500, 1000, []int{500, 1000, 1000}},
		{500, 999, []int{500, 999, 999}},
		{501, 1000, []int{501, 1000, 1000}},
		{1000, 1000, []int{1000, 1000, 1000}},
		{999, 1000, []int{999, 1000, 1000}},
		{999, 999, []int{999, 999, 999}},
	} {
		p := newPair(t, 1, x.wait, x.longest)
		p.offers(1)
		now := 17
		for _, w := range x.waits {
			p.sends(now, 1)
			p.has(0, 1, 2, now+w)
			p.sends(now + w - 1)
			now += w
		}
	}
}

// P17.2: all first waits, with a longest one at the first, just above it, at its doubles and beside them.
func TestWaitAll(t *testing.T) {
	for wait := 1; wait <= mostWait; wait++ {
		for _, longest := range []int{wait, wait + 1, 2*wait - 1, 2 * wait, 2*wait + 1, 4*wait - 1, 4*wait + 1, mostWait} {
			if longest > mostWait {
				continue
			}
			s, e := send.New(1, wait, longest)
			if e != api.OK {
				t.Fatal(e)
			}
			s.Offer(nil)
			now, w := 0, wait
			for range 12 {
				if l := s.Out(now); len(l) != 1 {
					t.Fatalf("wait %d, longest %d: nothing is sent at %d", wait, longest, now)
				}
				if d, ok := s.Due(); d != now+w || !ok {
					t.Fatalf("wait %d, longest %d: due at %d, not %d", wait, longest, d, now+w)
				}
				now += w
				w = min(w+w, longest)
			}
		}
	}
}

// P17.2: a wait goes on from the tick when the body was sent, not from the one when it was due.
func TestWaitFromSent(t *testing.T) {
	p := newPair(t, 2, 4, 100)
	p.offers(2)
	p.sends(10, 1, 2)
	p.sends(19, 1, 2) // due at 14
	p.has(0, 2, 3, 27)
	p.sends(26)
	p.sends(30, 1, 2)
	p.has(0, 2, 3, 46)
}

// P17.2: a body newly under way waits the first wait, however long others wait, or those waited that have come.
func TestWaitNew(t *testing.T) {
	p := newPair(t, 2, 3, 50)
	p.offers(1)
	for _, now := range []int{0, 3, 9, 21, 45, 95, 145} {
		p.sends(now, 1)
	}
	p.has(0, 1, 2, 195)
	p.offers(1)
	p.sends(150, 2)
	p.has(0, 2, 3, 153)
	p.sends(153, 2)
	p.has(0, 2, 3, 159)
	p.acks(3, 2)
	p.offers(2)
	p.sends(160, 3, 4)
	p.has(0, 2, 5, 163)
	p.sends(163, 3, 4)
	p.has(0, 2, 5, 169)
	p.acks(4, 1)
	p.offers(1)
	p.sends(169, 4, 5)
	p.has(0, 2, 6, 172)
	p.sends(172, 5)
	p.sends(178, 5)
	p.sends(181, 4)
}

// P17.2: standing in the line isn't waiting: a body's first wait begins with its first tick under way.
func TestLineDoesNotWait(t *testing.T) {
	p := newPair(t, 1, 2, 2)
	p.offers(3)
	for now := 0; now < 20; now += 2 {
		p.sends(now, 1)
	}
	p.has(2, 1, 2, 20)
	p.acks(2, 1)
	p.has(2, 0, 2, -1)
	p.sends(500, 2)
	p.has(1, 1, 3, 502)
}

// fives has bodies 1 to 5 under way and two more in the line.
func fives(t *testing.T) pair {
	t.Helper()
	p := newPair(t, 5, 3, 12)
	p.offers(7)
	p.sends(10, 1, 2, 3, 4, 5)
	p.has(2, 5, 6, 13)
	return p
}

// P17.3: Acked of 0, 1, each number under way, and Next: how many have a lesser number.
func TestAcked(t *testing.T) {
	for ack, n := range []int{0, 0, 1, 2, 3, 4, 5} {
		p := fives(t)
		p.acks(uint64(ack), n)
		due := 13
		if n == 5 {
			due = -1
		}
		p.has(2, 5-n, 6, due)
		p.acks(uint64(ack), 0)
		p.has(2, 5-n, 6, due)
		var left []uint64
		for i := n + 1; i <= min(5+n, 7); i++ {
			left = append(left, uint64(i))
		}
		p.sends(13, left...)
	}
}

// P17.3: of an ack above Next nothing changes, with bodies under way and without.
func TestAckedAbove(t *testing.T) {
	acks := []uint64{7, 8, 9, 64, 255, 256 + 6, 1<<16 + 6, 1 << 31, 1 << 32, 1<<32 + 3, 1<<32 + 6, 1<<63 - 1, 1 << 63, 1<<63 + 3, greatest - 1, greatest}
	for _, ack := range acks {
		p := fives(t)
		p.acks(ack, 0)
		p.has(2, 5, 6, 13)
		p.sends(12)
		p.sends(13, 1, 2, 3, 4, 5)
		p.acks(ack, 0)
		p.has(2, 5, 6, 19)
		p.acks(6, 5)
		p.acks(ack, 0)
		p.has(2, 0, 6, -1)
		p.sends(13, 6, 7)
	}
}

// P17.3: what stands in the line doesn't come by an ack of the number that it will have, or the one behind.
func TestAckedOfLine(t *testing.T) {
	p := newPair(t, 2, 1, 4)
	p.offers(3)
	for _, ack := range []uint64{0, 1, 2, 3, 4} {
		p.acks(ack, 0)
	}
	p.has(3, 0, 1, -1)
	p.sends(0, 1, 2)
	p.acks(4, 0)
	p.has(1, 2, 3, 1)
	p.acks(3, 2)
	p.acks(4, 0)
	p.acks(3, 0)
	p.has(1, 0, 3, -1)
	p.sends(5, 3)
	p.acks(3, 0)
	p.acks(4, 1)
	p.has(0, 0, 4, -1)
	p.acks(5, 0)
}

// P17.3: twice the same, and lesser ones behind a greater one: nothing more has come.
func TestAckedAgain(t *testing.T) {
	p := fives(t)
	p.acks(4, 3)
	for _, ack := range []uint64{4, 3, 2, 1, 0, 4} {
		p.acks(ack, 0)
		p.has(2, 2, 6, 13)
	}
	p.acks(5, 1)
	p.acks(4, 0)
	p.acks(6, 1)
	p.has(2, 0, 6, -1)
	for ack := range uint64(7) {
		p.acks(ack, 0)
		p.has(2, 0, 6, -1)
	}
	p.sends(11, 6, 7)
	for ack := range uint64(7) {
		p.acks(ack, 0)
		p.has(0, 2, 8, 14)
	}
	p.acks(7, 1)
	p.acks(8, 1)
	p.has(0, 0, 8, -1)
}

// P17.3: bodies come one by one, in some steps, and all at once, from windows of all sizes.
func TestAckedSteps(t *testing.T) {
	for window := 1; window <= mostWindow; window++ {
		for _, step := range []int{1, 2, 3, window, 7} {
			p := newPair(t, window, 2, 5)
			p.offers(window)
			p.out(0)
			for at := 1; at <= window+1; at += step {
				p.acks(uint64(at), min(at-1, step))
				due := 2
				if at > window {
					due = -1
				}
				p.has(0, window-at+1, uint64(window+1), due)
			}
			p.acked(uint64(window + 1))
			p.has(0, 0, uint64(window+1), -1)
		}
	}
}

// P17.3: behind Acked what stands in the line comes under way with the next Out alone.
func TestAckedThenOut(t *testing.T) {
	p := newPair(t, 2, 9, 9)
	p.offers(5)
	p.sends(0, 1, 2)
	p.acks(2, 1)
	p.has(3, 1, 3, 9)
	p.acks(3, 1)
	p.has(3, 0, 3, -1)
	p.offers(1)
	p.has(4, 0, 3, -1)
	p.sends(1, 3, 4)
	p.has(2, 2, 5, 10)
	p.acks(4, 1)
	p.has(2, 1, 5, 10)
	p.sends(2, 5)
	p.has(1, 2, 6, 10)
	p.sends(10, 4)
	p.has(1, 2, 6, 11)
	p.acks(6, 2)
	p.sends(10, 6)
	p.has(0, 1, 7, 19)
}

// P17.3: what has come isn't sent any more, whatever tick it was due at.
func TestAckedIsNotSent(t *testing.T) {
	p := fives(t)
	p.acks(3, 2)
	p.sends(13, 3, 4, 5, 6, 7)
	p.acks(5, 2)
	p.sends(16, 6, 7)
	p.sends(19, 5)
	p.acks(7, 2)
	p.sends(mostTick, 7)
	p.acks(8, 1)
	p.sends(mostTick)
	p.has(0, 0, 8, -1)
}

// P17.3: Due is the least tick, whichever body's it is, at each place among those under way.
func TestDueLeast(t *testing.T) {
	for first := range 4 {
		p := newPair(t, 4, 20, 30)
		for i := range 4 {
			at := 100 + i
			if i == first {
				at = 90
			}
			p.offers(1)
			p.sends(at, uint64(i+1))
		}
		p.has(0, 4, 5, 110)
		p.sends(109)
		p.sends(110, uint64(first+1)) // due at 140 from now on
		least := 120
		if first == 0 {
			least = 121
		}
		p.has(0, 4, 5, least)
		p.acks(uint64(first+1), first)
		least = 121 + first
		if first == 3 {
			least = 140
		}
		p.has(0, 4-first, 5, least)
		p.acks(uint64(first+2), 1)
		if first == 3 {
			least = -1
		}
		p.has(0, 3-first, 5, least)
	}
}

// P17.3: Line, Flight, Next and Due ask alone: they change nothing, as often as they are asked.
func TestAskingChangesNothing(t *testing.T) {
	p := newPair(t, 2, 3, 5)
	p.offers(4)
	for now := range 40 {
		for range 3 {
			p.is("asked")
		}
		p.out(now)
		if now%7 == 6 {
			p.acked(uint64(now / 7))
		}
	}
	p.has(0, 1, 5, 41)
}

// P17.4: windows of 1 and of the most, and others: full, emptied, and filled again, many times round.
func TestRounds(t *testing.T) {
	for _, window := range []int{1, 2, 3, 31, 63, 64} {
		p := newPair(t, window, 1, 3)
		now, next := 0, uint64(1)
		for range 30 {
			p.offers(window + 1)
			if l := p.out(now); len(l) != window || l[0].Seq != next || l[window-1].Seq != next+uint64(window)-1 {
				t.Fatalf("window %d: %s", window, told(l))
			}
			p.sends(now)
			next += uint64(window)
			p.acks(next, window)
			if l := p.out(now); len(l) != 1 || l[0].Seq != next {
				t.Fatalf("window %d: %s", window, told(l))
			}
			next++
			p.acks(next, 1)
			p.has(0, 0, next, -1)
			now += 5
		}
	}
}

// P17.4: a window that is full all the time: as many come under way as have come.
func TestSlides(t *testing.T) {
	for _, window := range []int{1, 2, 5, 64} {
		p := newPair(t, window, 4, 4)
		p.offers(300)
		p.out(0)
		for i := 1; i <= 300; i++ {
			p.acks(uint64(i+1), 1)
			if i+window > 300 {
				p.sends(1)
				continue
			}
			p.sends(1, uint64(i+window))
		}
		p.has(0, 0, 301, -1)
	}
}

// P17.4: of many bodies none is lost, and each has the number of its offer, whatever window they go by.
func TestLongLine(t *testing.T) {
	const many = 200000
	for _, window := range []int{1, 10, 64} {
		s, _ := send.New(window, 1, 1)
		for i := range many {
			if !s.Offer(fmt.Appendf(nil, "%d", i+1)) {
				t.Fatal("refused")
			}
		}
		if s.Line() != many || s.Flight() != 0 {
			t.Fatalf("line %d, flight %d", s.Line(), s.Flight())
		}
		next := uint64(1)
		for s.Line() > 0 {
			l := s.Out(0)
			if len(l) != s.Flight() || len(l) == 0 || len(l) > window {
				t.Fatalf("%d are sent, %d are under way", len(l), s.Flight())
			}
			for _, x := range l {
				if x.Seq != next || string(x.Data) != fmt.Sprint(next) {
					t.Fatalf("%d %s, not %d", x.Seq, brief(x.Data), next)
				}
				next++
			}
			if s.Acked(s.Next()) != len(l) {
				t.Fatal("not all have come")
			}
		}
		if next != many+1 || s.Next() != next || s.Flight() != 0 {
			t.Fatalf("%d %d %d", next, s.Next(), s.Flight())
		}
	}
}

// P17.4: senders have nothing in common.
func TestTwoSenders(t *testing.T) {
	a, b := newPair(t, 2, 1, 4), newPair(t, 3, 2, 9)
	a.offers(3)
	b.has(0, 0, 1, -1)
	b.sends(0)
	b.offers(1)
	a.sends(0, 1, 2)
	b.sends(0, 1)
	a.acks(3, 2)
	b.has(0, 1, 2, 2)
	b.sends(2, 1)
	a.sends(2, 3)
	a.has(0, 1, 4, 3)
	b.has(0, 1, 2, 6)
	b.acks(2, 1)
	a.has(0, 1, 4, 3)
	newPair(t, 1, 1, 1).has(0, 0, 1, -1)
}

// The chapter's example.
func TestExample(t *testing.T) {
	s, _ := send.New(1, 2, 3)
	if !s.Offer([]byte("a")) || !s.Offer([]byte("b")) {
		t.Fatal("refused")
	}
	if got := told(s.Out(0)); got != `1 "a"` {
		t.Error(got)
	}
	if got := told(s.Out(2)); got != `1 "a"` {
		t.Error(got)
	}
	if d, ok := s.Due(); d != 5 || !ok {
		t.Errorf("due %d %v", d, ok)
	}
	if n := s.Acked(2); n != 1 {
		t.Errorf("Acked: %d", n)
	}
	if got := told(s.Out(3)); got != `2 "b"` {
		t.Error(got)
	}
}

// P17.4: a nil sender: false, none, 0.
func TestNil(t *testing.T) {
	var s *send.Sender
	for _, b := range [][]byte{nil, {}, {1}, make([]byte, mostData), make([]byte, mostData+1)} {
		if s.Offer(b) {
			t.Error("Offer is true")
		}
	}
	for _, now := range slices.Concat([]int{0, 1, mostTick}, earlyTicks, lateTicks) {
		if l := s.Out(now); len(l) != 0 {
			t.Errorf("Out(%d): %s", now, told(l))
		}
	}
	for _, ack := range []uint64{0, 1, 2, 1 << 63, greatest} {
		if n := s.Acked(ack); n != 0 {
			t.Errorf("Acked(%d): %d", ack, n)
		}
	}
	if d, ok := s.Due(); s.Line() != 0 || s.Flight() != 0 || s.Next() != 0 || d != 0 || ok {
		t.Errorf("line %d, flight %d, next %d, due %d %v", s.Line(), s.Flight(), s.Next(), d, ok)
	}
}

// chance makes numbers that are alike in each run.
type chance uint64

// next number below n.
func (c *chance) next(n int) int {
	*c = *c*6364136223846793005 + 1442695040888963407
	return int(uint64(*c)>>33) % n
}

// body of no bytes, of few, of more, or of about the most.
func (c *chance) body() []byte {
	n := []int{0, 1, c.next(20), c.next(20), c.next(300), mostData - 1 + c.next(3)}[c.next(6)]
	b := make([]byte, n)
	for i := range b {
		b[i] = byte(c.next(256))
	}
	return b
}

// tick ahead of now, at it, behind it, at a body's due one or beside it, and now and then anywhere.
func (c *chance) tick(p pair, now int) int {
	due, _ := p.s.Due()
	switch c.next(30) {
	case 0:
		return earlyTicks[c.next(len(earlyTicks))]
	case 1:
		return lateTicks[c.next(len(lateTicks))]
	case 2:
		return mostTick - c.next(20)
	case 3, 4, 5:
		return now - c.next(10)
	case 6, 7, 8, 9, 10, 11:
		return due - 1 + c.next(3)
	}
	return now + c.next(4)
}

// ack of a number under way mostly, or of one beside those, or far above them.
func (c *chance) ack(p pair) uint64 {
	next := p.s.Next()
	switch c.next(10) {
	case 0:
		return next + 1 + uint64(c.next(3))
	case 1:
		return greatest - uint64(c.next(3))
	case 2:
		return uint64(c.next(int(next) + 1))
	}
	return next - uint64(c.next(min(int(next), p.s.Flight()+2)))
}

// mixed run of one sender.
func (c *chance) run(p pair, steps int) {
	p.t.Helper()
	now, busy := 0, 1+c.next(8) // how much more is offered than comes
	for range steps {
		switch k := c.next(10 + busy); {
		case k < 4:
			now += c.next(3)
			p.out(c.tick(p, now))
		case k < 7:
			p.out(now)
		case k < 10:
			p.acked(c.ack(p))
		default:
			p.offer(c.body())
		}
	}
}

// drain holds that all bodies come at last, each with the number of its offer, as far as it was sent.
func (p pair) drain() {
	p.t.Helper()
	for p.s.Line()+p.s.Flight() > 0 {
		p.out(mostTick)
		p.acked(p.s.Next())
	}
	p.has(0, 0, uint64(len(p.m.bodies)+1), -1)
}

// P17.1 to P17.4: long mixed runs against the model: each body offered stands in the line, is under way, or has come.
func TestMany(t *testing.T) {
	c := chance(17)
	for range 300 {
		window := []int{1, 2, 64, 1 + c.next(mostWindow)}[c.next(4)]
		wait := []int{1, 2, mostWait, 1 + c.next(20)}[c.next(4)]
		longest := min([]int{wait, wait + c.next(5), 2*wait + c.next(40), mostWait}[c.next(4)], mostWait)
		p := newPair(t, window, wait, longest)
		c.run(p, 400)
		p.drain()
	}
}
