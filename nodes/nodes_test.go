package nodes_test

import (
	"math"
	"slices"
	"testing"

	"runrig/nodes"
)

const all = 0xffff

// noNodes are none: those just outside, near the ends of int, and those that
// are a node in 4, 8, 16, 32 or 63 bits.
var noNodes = []int{
	-1, -2, -15, -16, -17, -64, -256, -65536,
	16, 17, 31, 32, 63, 64, 65, 128, 255, 256, 257, 271, 65535, 65536, 65537, 65551,
	math.MaxInt32, math.MaxInt32 + 1, math.MinInt32, math.MinInt32 - 1, 1 << 32, 1<<32 + 1, 1<<32 + 15, -1 << 32, -1<<32 + 3,
	1 << 62, 1<<62 + 2, math.MaxInt, math.MaxInt - 1, math.MaxInt - 15, math.MaxInt - 16,
	math.MinInt, math.MinInt + 1, math.MinInt + 15, math.MinInt + 16,
}

// model is a set as a row of 16 answers.
type model [16]bool

// of tells the model of a set, by dividing.
func of(s uint16) model {
	var m model
	for i := range m {
		m[i] = s%2 == 1
		s /= 2
	}
	return m
}

// set is a model's number.
func (m model) set() uint16 {
	var s, worth uint16 = 0, 1
	for i := range m {
		if m[i] {
			s += worth
		}
		worth *= 2
	}
	return s
}

// with a node.
func (m model) with(n int) model {
	m[n] = true
	return m
}

// without a node.
func (m model) without(n int) model {
	m[n] = false
	return m
}

// list tells a model's nodes, rising.
func (m model) list() []int {
	l := []int{}
	for i, in := range m {
		if in {
			l = append(l, i)
		}
	}
	return l
}

// some sets: none, all, each node alone, all but one, all up to one, and mixed ones.
func some() []uint16 {
	l := []uint16{0, all, 0x8001, 0x7ffe, 0x5555, 0xaaaa, 0x00ff, 0xff00, 0x0f0f, 0xf0f0, 0x8084, 0x1234, 0xfedc}
	for n := range 16 {
		one := uint16(1) << n
		l = append(l, one, all-one, one-1, all-(one-1))
	}
	return l
}

// each calls a test for every set that there is.
func each(test func(s uint16, m model)) {
	for s := 0; s <= all; s++ {
		test(uint16(s), of(uint16(s)))
	}
}

// P2.1: Of ordinary nodes, at the edges, twice named and in any order.
func TestOf(t *testing.T) {
	for _, x := range []struct {
		l []int
		s uint16
	}{
		{nil, 0},
		{[]int{}, 0},
		{[]int{0}, 0x0001},
		{[]int{15}, 0x8000},
		{[]int{0, 15}, 0x8001},
		{[]int{15, 0}, 0x8001},
		{[]int{3, 0, 3}, 0x0009}, // the example's
		{[]int{3, 3}, 0x0008},
		{[]int{3, 3, 3, 3}, 0x0008},
		{[]int{1, 2, 1, 2}, 0x0006},
		{[]int{7, 5, 9, 5, 7}, 0x02a0},
		{[]int{0, 1, 2, 3, 4, 5, 6, 7, 8, 9, 10, 11, 12, 13, 14, 15}, all},
		{[]int{15, 14, 13, 12, 11, 10, 9, 8, 7, 6, 5, 4, 3, 2, 1, 0}, all},
		{[]int{8, 8, 0, 15, 15, 0, 8}, 0x8101},
	} {
		if g := nodes.Of(x.l...); g != x.s {
			t.Errorf("Of(%v): %04x, not %04x", x.l, g, x.s)
		}
	}
	if g := nodes.Of(); g != 0 {
		t.Errorf("Of nothing: %04x", g)
	}
	for n := range 16 {
		if g := nodes.Of(n); of(g) != (model{}).with(n) {
			t.Errorf("Of(%d): %04x", n, g)
		}
	}
}

// P2.1: Of passes over what is no node, wherever it stands.
func TestOfNoNodes(t *testing.T) {
	if g := nodes.Of(noNodes...); g != 0 {
		t.Errorf("Of no nodes: %04x", g)
	}
	for _, n := range noNodes {
		for _, x := range []struct {
			l []int
			s uint16
		}{
			{[]int{n}, 0},
			{[]int{n, 4}, 0x0010},
			{[]int{4, n}, 0x0010},
			{[]int{0, n, 15}, 0x8001},
			{[]int{n, 0, n, 15, n}, 0x8001},
		} {
			if g := nodes.Of(x.l...); g != x.s {
				t.Errorf("Of(%v): %04x, not %04x", x.l, g, x.s)
			}
		}
	}
}

// P2.1: Of every set's nodes, falling and each twice; the list handed in stays.
func TestOfAll(t *testing.T) {
	each(func(s uint16, m model) {
		l := m.list()
		slices.Reverse(l)
		l = append(l, m.list()...)
		was := slices.Clone(l)
		if g := nodes.Of(l...); g != s {
			t.Errorf("Of(%v): %04x, not %04x", l, g, s)
		}
		if !slices.Equal(l, was) {
			t.Errorf("Of changed %v to %v", was, l)
		}
	})
}

// P2.1: Of a long list.
func TestOfLong(t *testing.T) {
	l := make([]int, 100000)
	for i := range l {
		l[i] = i - 50000
	}
	if g := nodes.Of(l...); g != all {
		t.Errorf("Of %d numbers: %04x", len(l), g)
	}
	if g := nodes.Of(l[:50000]...); g != 0 {
		t.Errorf("Of all below 0: %04x", g)
	}
	if g := nodes.Of(l[50016:]...); g != 0 {
		t.Errorf("Of all above 15: %04x", g)
	}
}

// P2.1: Has, Add and Drop of each node, in every set.
func TestOneNode(t *testing.T) {
	each(func(s uint16, m model) {
		for n := range 16 {
			if nodes.Has(s, n) != m[n] {
				t.Errorf("Has(%04x, %d) isn't %v", s, n, m[n])
			}
			if g, want := nodes.Add(s, n), m.with(n).set(); g != want {
				t.Errorf("Add(%04x, %d): %04x, not %04x", s, n, g, want)
			}
			if g, want := nodes.Drop(s, n), m.without(n).set(); g != want {
				t.Errorf("Drop(%04x, %d): %04x, not %04x", s, n, g, want)
			}
		}
	})
}

// P2.1: what is no node is in no set, and Add and Drop of it leave a set as it is.
func TestNoNode(t *testing.T) {
	for _, s := range some() {
		for _, n := range noNodes {
			if nodes.Has(s, n) {
				t.Errorf("Has(%04x, %d) is true", s, n)
			}
			if g := nodes.Add(s, n); g != s {
				t.Errorf("Add(%04x, %d): %04x", s, n, g)
			}
			if g := nodes.Drop(s, n); g != s {
				t.Errorf("Drop(%04x, %d): %04x", s, n, g)
			}
		}
	}
}

// P2.1: numbers of a node with each higher bit set are no nodes.
func TestNodeInFewerBits(t *testing.T) {
	for n := range 16 {
		for i := 4; i < 64; i++ {
			wide := n | 1<<i
			if nodes.Of(wide) != 0 || nodes.Has(all, wide) || nodes.Add(0, wide) != 0 || nodes.Drop(all, wide) != all {
				t.Errorf("%d is a node", wide)
			}
		}
	}
}

// P2.1: Len and List of every set.
func TestLenList(t *testing.T) {
	each(func(s uint16, m model) {
		want := m.list()
		if g := nodes.Len(s); g != len(want) {
			t.Errorf("Len(%04x): %d, not %d", s, g, len(want))
		}
		if g := nodes.List(s); !slices.Equal(g, want) {
			t.Errorf("List(%04x): %v, not %v", s, g, want)
		}
	})
	for _, x := range []struct {
		s uint16
		l []int
	}{
		{0, nil}, {1, []int{0}}, {0x8000, []int{15}}, {0x8001, []int{0, 15}}, {0x8084, []int{2, 7, 15}},
		{all, []int{0, 1, 2, 3, 4, 5, 6, 7, 8, 9, 10, 11, 12, 13, 14, 15}},
	} {
		if g := nodes.List(x.s); !slices.Equal(g, x.l) || nodes.Len(x.s) != len(x.l) {
			t.Errorf("List(%04x): %v, Len %d", x.s, g, nodes.Len(x.s))
		}
	}
}

// P2.1: an answer of List is new memory, its spare room too.
func TestListNew(t *testing.T) {
	for _, s := range some() {
		want := of(s).list()
		a, b := nodes.List(s), nodes.List(s)
		for i := range a[:cap(a)] {
			a[:cap(a)][i] = -7
		}
		if !slices.Equal(b, want) || !slices.Equal(nodes.List(s), want) {
			t.Errorf("answers of List(%04x) share memory: %v", s, b)
		}
		if cap(a) > len(a) && cap(b) > len(b) && &a[:cap(a)][cap(a)-1] == &b[:cap(b)][cap(b)-1] {
			t.Errorf("answers of List(%04x) share room", s)
		}
	}
}

// P2.1: Next from each place in and about every set.
func TestNext(t *testing.T) {
	each(func(s uint16, m model) {
		for n := -2; n <= 18; n++ {
			want := -1
			for _, i := range m.list() {
				if i >= n {
					want = i
					break
				}
			}
			if g := nodes.Next(s, n); g != want {
				t.Errorf("Next(%04x, %d): %d, not %d", s, n, g, want)
			}
		}
	})
}

// P2.1: Next from far below 0 is the least one, from past 15 there is none.
func TestNextFar(t *testing.T) {
	for _, s := range some() {
		least := -1
		if l := of(s).list(); len(l) > 0 {
			least = l[0]
		}
		for _, n := range noNodes {
			want := -1
			if n < 0 {
				want = least
			}
			if g := nodes.Next(s, n); g != want {
				t.Errorf("Next(%04x, %d): %d, not %d", s, n, g, want)
			}
		}
	}
	for _, x := range []struct {
		s       uint16
		n, want int
	}{
		{9, 1, 3}, // the example
		{9, 0, 0}, {9, 3, 3}, {9, 4, -1}, {9, -1, 0},
		{all, 15, 15}, {all, 16, -1}, {0x8000, 15, 15}, {0x8000, 0, 15}, {0x4000, 15, -1}, {0x4000, 14, 14},
		{0, 0, -1}, {0, -1, -1}, {0, 15, -1}, {0, math.MinInt, -1}, {0, math.MaxInt, -1},
		{1, math.MinInt, 0}, {all, math.MinInt, 0}, {all, math.MaxInt, -1}, {0x8000, math.MinInt, 15},
	} {
		if g := nodes.Next(x.s, x.n); g != x.want {
			t.Errorf("Next(%04x, %d): %d, not %d", x.s, x.n, g, x.want)
		}
	}
}

// pair holds Join, Less and In of two sets against the models'.
func pair(t *testing.T, a, b uint16) {
	t.Helper()
	x, y := of(a), of(b)
	var join, less model
	in := true
	for i := range x {
		join[i] = x[i] || y[i]
		less[i] = x[i] && !y[i]
		in = in && (y[i] || !x[i])
	}
	if g := nodes.Join(a, b); g != join.set() {
		t.Errorf("Join(%04x, %04x): %04x, not %04x", a, b, g, join.set())
	}
	if g := nodes.Less(a, b); g != less.set() {
		t.Errorf("Less(%04x, %04x): %04x, not %04x", a, b, g, less.set())
	}
	if g := nodes.In(a, b); g != in {
		t.Errorf("In(%04x, %04x): %v", a, b, g)
	}
}

// P2.2: Join, Less and In of some sets with one another, and with every set, both ways round.
func TestPairs(t *testing.T) {
	for _, a := range some() {
		for _, b := range some() {
			pair(t, a, b)
		}
	}
	for _, a := range []uint16{0, all, 0x8001, 0x7ffe, 0x1234} {
		each(func(b uint16, _ model) {
			pair(t, a, b)
			pair(t, b, a)
		})
	}
}

// P2.2: Join, Less and In of every pair of sets of the lowest eight nodes, and of the highest.
func TestSmallPairs(t *testing.T) {
	for a := range uint16(256) {
		for b := range uint16(256) {
			pair(t, a, b)
			pair(t, a<<8, b<<8)
		}
	}
}

// P2.2: Join, Less and In, written out: ordinary ones, the empty set and all nodes.
func TestPairsWritten(t *testing.T) {
	for _, x := range []struct {
		a, b, join, less uint16
		in               bool
	}{
		{0, 0, 0, 0, true},
		{0, all, all, 0, true},
		{all, 0, all, all, false},
		{all, all, all, 0, true},
		{1, 6, 7, 1, false},
		{7, 2, 7, 5, false},
		{5, 7, 7, 0, true},
		{8, 7, 15, 8, false},
		{0x8000, 0x7fff, all, 0x8000, false},
		{0x8000, 0x8001, 0x8001, 0, true},
		{0x8001, 0x8000, 0x8001, 1, false},
		{0x8001, 0x0001, 0x8001, 0x8000, false},
		{0x00ff, 0x0ff0, 0x0fff, 0x000f, false},
	} {
		if g := nodes.Join(x.a, x.b); g != x.join {
			t.Errorf("Join(%04x, %04x): %04x", x.a, x.b, g)
		}
		if g := nodes.Less(x.a, x.b); g != x.less {
			t.Errorf("Less(%04x, %04x): %04x", x.a, x.b, g)
		}
		if g := nodes.In(x.a, x.b); g != x.in {
			t.Errorf("In(%04x, %04x): %v", x.a, x.b, g)
		}
	}
}

// P2.2: Text, written out.
func TestText(t *testing.T) {
	for _, x := range []struct {
		s    uint16
		text string
	}{
		{0, "-"},
		{1, "0"},
		{2, "1"},
		{0x0200, "9"},
		{0x0400, "10"},
		{0x8000, "15"},
		{0x8001, "0,15"},
		{nodes.Of(3, 0, 3), "0,3"}, // the example
		{nodes.Of(10, 1), "1,10"},
		{nodes.Of(11, 1), "1,11"},
		{nodes.Of(15, 2, 7, 2), "2,7,15"},
		{nodes.Of(16, -1), "-"},
		{all, "0,1,2,3,4,5,6,7,8,9,10,11,12,13,14,15"},
	} {
		if g := nodes.Text(x.s); g != x.text {
			t.Errorf("Text(%04x): %q, not %q", x.s, g, x.text)
		}
	}
}

// P2.2: Text of every set.
func TestTextAll(t *testing.T) {
	names := []string{"0", "1", "2", "3", "4", "5", "6", "7", "8", "9", "10", "11", "12", "13", "14", "15"}
	each(func(s uint16, m model) {
		want := ""
		for _, n := range m.list() {
			if want != "" {
				want += ","
			}
			want += names[n]
		}
		if want == "" {
			want = "-"
		}
		if g := nodes.Text(s); g != want {
			t.Errorf("Text(%04x): %q, not %q", s, g, want)
		}
	})
}
