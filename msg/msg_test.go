package msg_test

import (
	"bytes"
	"encoding/binary"
	"fmt"
	"math"
	"slices"
	"strings"
	"testing"

	"runrig/api"
	"runrig/msg"
)

// The kinds by their numbers, and what else a right message is bounded by.
const (
	wantRead = iota + 1
	wantWrite
	copied
	grant
	forget
	forgot

	pageSize = 4096
	headSize = 11
)

// kinds are all six.
var kinds = []api.MsgKind{wantRead, wantWrite, copied, grant, forget, forgot}

// noKinds are none: those just outside, the ends of the type, and such as are one in fewer bits.
var noKinds = []api.MsgKind{
	0, 7, 8, 9, 15, 16, 17, 127, 128, 254, 255, 256, 257, 260, 262, 512 + 3, 65536, 65537, 65536 + 4,
	-1, -2, -3, -4, -5, -6, -7, -252, -253, -255, -256, 1 << 32, 1<<32 + 1, 1<<32 + 4, -1<<32 + 3, 1<<62 + 2,
	math.MaxInt, math.MaxInt - 1, math.MaxInt32, math.MinInt32, math.MinInt, math.MinInt + 1, math.MinInt + 3, math.MinInt + 4,
}

// ends are numbers near the ends of int and of narrower ones.
var ends = []int{
	math.MaxInt, math.MaxInt - 1, math.MinInt, math.MinInt + 1, math.MinInt + 5, math.MaxInt32, math.MinInt32,
	1 << 31, 1<<31 + 5, 1 << 32, 1<<32 + 5, -1 << 32, -1<<32 + 5, 1 << 62, 1<<62 + 5,
}

// Those that may be and those that may not, of each number.
var (
	pages   = []int{0, 1, 2, 127, 128, 255, 256, 258, 511, 512, 32767, 32768, 65279, 65280, 65534, 65535}
	noPages = append([]int{-1, -2, -65535, -65536, 65536, 65537, 65536 + 258, 1 << 17, 1 << 24}, ends...)
	owners  = []int{0, 1, 2, 3, 4, 5, 6, 7, 8, 9, 10, 11, 12, 13, 14, 15}
	noNodes = append([]int{-1, -2, -15, -16, 16, 17, 31, 32, 255, 256, 256 + 3, 65536, 65536 + 3}, ends...)
	hops    = []int{0, 1, 2, 9, 10, 15, 16, 127, 128, 253, 254, 255}
	noHops  = append([]int{-1, -2, -255, -256, 256, 257, 511, 512, 65535, 65536, 65536 + 7}, ends...)
)

// sets are the empty one, each node alone, and some of all kinds.
func sets() []uint16 {
	l := []uint16{0, 0xffff, 0x8001, 0x1234, 0xfffe, 0x7fff, 0x00ff, 0xff00, 0x0009}
	for i := range 16 {
		l = append(l, 1<<i)
	}
	return l
}

// row has these bytes and spare room behind them: of ones behind a nought, else of noughts.
func row(b []byte) []byte {
	behind := byte(0xff)
	if len(b) > 0 && b[len(b)-1] != 0 {
		behind = 0
	}
	return append(slices.Clone(b), bytes.Repeat([]byte{behind}, 20)...)[:len(b)]
}

// filled has n bytes, and the last of them is this one.
func filled(n int, last byte) []byte {
	b := make([]byte, n)
	for i := range b {
		b[i] = byte(0x35 + 29*i + i*i/7)
	}
	b[n-1] = last
	return row(b)
}

// noughts has n of them, and what is told behind them.
func noughts(n int, behind ...byte) []byte {
	return row(append(make([]byte, n), behind...))
}

// datas are those that a Copy and a Grant may have, beside none.
func datas() [][]byte {
	return [][]byte{
		{1}, {0x80}, {0xff}, {0, 9}, {9, 9}, {0, 0, 5}, {5, 0, 7}, filled(10, 1), noughts(100, 3),
		filled(254, 1), filled(255, 1), filled(256, 1), filled(257, 1), filled(1000, 0xff), noughts(256, 1),
		filled(pageSize-1, 1), filled(pageSize, 1), filled(pageSize, 0xff), noughts(pageSize-1, 0x80), noughts(pageSize-2, 1),
	}
}

// noDatas are those that none may have: at their end a nought, or more than a page.
func noDatas() [][]byte {
	return [][]byte{
		noughts(1), noughts(2), noughts(3), filled(2, 0), filled(3, 0), row([]byte{9, 0, 0, 0}), filled(255, 0), filled(256, 0),
		noughts(256), filled(pageSize-1, 0), filled(pageSize, 0), noughts(pageSize - 1), noughts(pageSize),
		filled(pageSize+1, 1), filled(pageSize+1, 0), noughts(pageSize, 1), noughts(pageSize + 1), filled(pageSize+2, 7),
		filled(2*pageSize, 1), filled(65535, 1), filled(65536, 1), filled(65536+1, 1), filled(65536+pageSize, 1), noughts(65536),
	}
}

// carries tells whether messages of a kind have Data.
func carries(k api.MsgKind) bool {
	return k == copied || k == grant
}

// right tells whether a message is, part by part.
func right(m api.Msg) bool {
	data := string(m.Data)
	switch {
	case !slices.Contains(kinds, m.Kind):
		return false
	case m.Page < 0 || m.Page > 65535 || m.Node < 0 || m.Node > 15 || m.Hops < 0 || m.Hops > 255:
		return false
	case m.Kind != grant && m.Set > 0:
		return false
	case !carries(m.Kind):
		return data == ""
	}
	return len(data) <= pageSize && !strings.HasSuffix(data, "\x00")
}

// encoded is a right message, byte by byte.
func encoded(m api.Msg) []byte {
	n := len(m.Data)
	head := []byte{
		byte(m.Kind), byte(m.Node), byte(m.Hops),
		byte(m.Page), byte(m.Page / 256), 0, 0,
		byte(m.Set), byte(m.Set / 256),
		byte(n), byte(n / 256),
	}
	return append(head, m.Data...)
}

// decoded is the right message whose bytes these are.
func decoded(b []byte) (api.Msg, bool) {
	if len(b) < headSize {
		return api.Msg{}, false
	}
	m := api.Msg{
		Kind: api.MsgKind(b[0]), Node: int(b[1]), Hops: int(b[2]),
		Page: int(binary.LittleEndian.Uint32(b[3:])), Set: binary.LittleEndian.Uint16(b[7:]), Data: b[headSize:],
	}
	if !right(m) || !bytes.Equal(encoded(m), b) {
		return api.Msg{}, false
	}
	return m, true
}

// alike tells whether messages are, part by part.
func alike(a, b api.Msg) bool {
	return fmt.Sprint(a.Kind, a.Page, a.Node, a.Hops, a.Set) == fmt.Sprint(b.Kind, b.Page, b.Node, b.Hops, b.Set) &&
		string(a.Data) == string(b.Data)
}

// text is what Text should be.
func text(m api.Msg) string {
	kind := map[api.MsgKind]string{1: "read", 2: "write", 3: "copy", 4: "grant", 5: "forget", 6: "forgot"}[m.Kind]
	if kind == "" {
		kind = "?"
	}
	l := []string{fmt.Sprintf("%s page %d node %d", kind, m.Page, m.Node)}
	if m.Hops != 0 {
		l = append(l, fmt.Sprintf("hops %d", m.Hops))
	}
	if m.Kind == grant {
		l = append(l, "set "+setText(m.Set))
	}
	if len(m.Data) != 0 {
		l = append(l, fmt.Sprintf("bytes %d", len(m.Data)))
	}
	return strings.Join(l, " ")
}

// setText is the text of a set.
func setText(s uint16) string {
	t := ""
	for n := range 16 {
		if s>>n%2 == 1 {
			t += fmt.Sprintf(",%d", n)
		}
	}
	if t == "" {
		return "-"
	}
	return t[1:]
}

// short tells a message in few words.
func short(m api.Msg) string {
	return fmt.Sprintf("{%d page %d node %d hops %d set %04x, %d bytes}", m.Kind, m.Page, m.Node, m.Hops, m.Set, len(m.Data))
}

// whole is a row and its spare room.
func whole(b []byte) []byte {
	return b[:cap(b)]
}

// spoil lays other bytes over a row and over its spare room.
func spoil(b []byte) {
	for i := range whole(b) {
		whole(b)[i] ^= 0xa5
	}
}

// isRight holds Right and Put of a message that is right.
func isRight(t *testing.T, m api.Msg) {
	t.Helper()
	if !msg.Right(m) {
		t.Errorf("Right(%s) is false", short(m))
	}
	if b, e := msg.Put(m); e != api.OK || !bytes.Equal(b, encoded(m)) {
		t.Errorf("Put(%s): %x %v", short(m), b, e)
	}
}

// isWrong holds Right and Put of a message that isn't right.
func isWrong(t *testing.T, m api.Msg) {
	t.Helper()
	if msg.Right(m) {
		t.Errorf("Right(%s) is true", short(m))
	}
	if b, e := msg.Put(m); e != api.ErrArg || len(b) != 0 {
		t.Errorf("Put(%s): %x %v", short(m), b, e)
	}
}

// is holds Right and Put of a message against the model.
func is(t *testing.T, m api.Msg) {
	t.Helper()
	if right(m) {
		isRight(t, m)
		return
	}
	isWrong(t, m)
}

// isNone holds that bytes are no message's.
func isNone(t *testing.T, b []byte, why string) {
	t.Helper()
	if m, ok := msg.Get(b); ok || !alike(m, api.Msg{}) {
		t.Errorf("%s: Get(%x): %s %v", why, b[:min(len(b), 20)], short(m), ok)
	}
}

// isMsg holds that bytes are a message's.
func isMsg(t *testing.T, b []byte, want api.Msg) {
	t.Helper()
	if m, ok := msg.Get(b); !ok || !alike(m, want) {
		t.Errorf("Get(%x): %s %v, not %s", b[:min(len(b), 20)], short(m), ok, short(want))
	}
}

// someRight are right messages of each kind, with all that one may have at its least and its greatest.
func someRight() []api.Msg {
	var l []api.Msg
	for _, k := range kinds {
		l = append(l,
			api.Msg{Kind: k}, api.Msg{Kind: k, Page: 258, Node: 3}, api.Msg{Kind: k, Page: 65535, Node: 15, Hops: 255},
			api.Msg{Kind: k, Page: 65535}, api.Msg{Kind: k, Node: 15}, api.Msg{Kind: k, Hops: 255}, api.Msg{Kind: k, Data: []byte{}})
		if !carries(k) {
			continue
		}
		for _, d := range datas() {
			l = append(l, api.Msg{Kind: k, Page: 0x1234, Node: 9, Hops: 7, Data: d})
		}
	}
	for _, s := range sets() {
		l = append(l, api.Msg{Kind: grant, Set: s}, api.Msg{Kind: grant, Page: 65535, Node: 15, Hops: 255, Set: s, Data: filled(pageSize, 0xff)})
	}
	return l
}

// P15.1: the six kinds are right, and no other number is one.
func TestKinds(t *testing.T) {
	for _, k := range kinds {
		isRight(t, api.Msg{Kind: k})
		isRight(t, api.Msg{Kind: k, Page: 65535, Node: 15, Hops: 255})
	}
	for _, k := range noKinds {
		for _, data := range [][]byte{nil, {}, {1}} {
			for _, s := range []uint16{0, 1} {
				isWrong(t, api.Msg{Kind: k, Set: s, Data: data})
				isWrong(t, api.Msg{Kind: k, Page: 65535, Node: 15, Hops: 255, Set: s, Data: data})
			}
		}
	}
	for k := api.MsgKind(-1000); k <= 1000; k++ {
		is(t, api.Msg{Kind: k, Page: 1, Node: 2, Hops: 3})
	}
	isWrong(t, api.Msg{})
}

// P15.1: Page, Node and Hops, each in its bounds and beyond them, at each kind.
func TestNumbers(t *testing.T) {
	for _, k := range kinds {
		for _, x := range pages {
			isRight(t, api.Msg{Kind: k, Page: x, Node: 1, Hops: 1})
		}
		for _, x := range noPages {
			isWrong(t, api.Msg{Kind: k, Page: x, Node: 1, Hops: 1})
		}
		for _, x := range owners {
			isRight(t, api.Msg{Kind: k, Page: 1, Node: x, Hops: 1})
		}
		for _, x := range noNodes {
			isWrong(t, api.Msg{Kind: k, Page: 1, Node: x, Hops: 1})
		}
		for _, x := range hops {
			isRight(t, api.Msg{Kind: k, Page: 1, Node: 1, Hops: x})
		}
		for _, x := range noHops {
			isWrong(t, api.Msg{Kind: k, Page: 1, Node: 1, Hops: x})
		}
	}
}

// P15.1: every page, node and number of hops.
func TestEveryNumber(t *testing.T) {
	for x := range 65536 {
		m := api.Msg{Kind: wantWrite, Page: x, Node: x % 16, Hops: x / 16 % 256}
		b, e := msg.Put(m)
		if e != api.OK || !bytes.Equal(b, encoded(m)) {
			t.Fatalf("Put(%s): %x %v", short(m), b, e)
		}
		if g, ok := msg.Get(b); !ok || !alike(g, m) {
			t.Fatalf("Get(Put(%s)): %s %v", short(m), short(g), ok)
		}
	}
}

// P15.1: a Grant has any set, the others have none.
func TestSets(t *testing.T) {
	for _, k := range kinds {
		for _, s := range sets() {
			for _, data := range [][]byte{nil, {1}} {
				m := api.Msg{Kind: k, Page: 5, Node: 6, Hops: 7, Set: s, Data: data}
				if k == grant || s == 0 && (k == copied || len(data) == 0) {
					isRight(t, m)
				} else {
					isWrong(t, m)
				}
			}
		}
	}
	for s := range 65536 {
		m := api.Msg{Kind: grant, Set: uint16(s)}
		if b, e := msg.Put(m); e != api.OK || !bytes.Equal(b, encoded(m)) {
			t.Fatalf("Put(%s): %x %v", short(m), b, e)
		}
		if s > 0 && msg.Right(api.Msg{Kind: copied, Set: uint16(s)}) {
			t.Fatalf("a Copy with the set %04x is right", s)
		}
	}
}

// P15.1: a Copy and a Grant have at most a page's bytes, the last of them no nought; the others have none.
func TestDatas(t *testing.T) {
	for _, k := range kinds {
		isRight(t, api.Msg{Kind: k, Data: nil})
		isRight(t, api.Msg{Kind: k, Data: []byte{}})
		isRight(t, api.Msg{Kind: k, Data: filled(1, 1)[:0]})
		for _, d := range datas() {
			if m := (api.Msg{Kind: k, Page: 1, Node: 2, Data: d}); carries(k) {
				isRight(t, m)
			} else {
				isWrong(t, m)
			}
		}
		for _, d := range noDatas() {
			isWrong(t, api.Msg{Kind: k, Page: 1, Node: 2, Data: d})
		}
		for last := range 256 {
			is(t, api.Msg{Kind: k, Data: []byte{byte(last)}})
			is(t, api.Msg{Kind: k, Data: filled(pageSize, byte(last))})
		}
	}
}

// P15.1: all parts at and beside their bounds, by the side of one another.
func TestRightTogether(t *testing.T) {
	for k := api.MsgKind(-1); k <= 8; k++ {
		for _, p := range []int{-1, 0, 65535, 65536, math.MinInt, math.MaxInt} {
			for _, n := range []int{-1, 0, 15, 16, math.MinInt, math.MaxInt} {
				for _, h := range []int{-1, 0, 255, 256, math.MinInt, math.MaxInt} {
					for _, s := range []uint16{0, 1, 0x8000} {
						for _, d := range [][]byte{nil, {1}, {1, 0}, {0}} {
							is(t, api.Msg{Kind: k, Page: p, Node: n, Hops: h, Set: s, Data: d})
						}
					}
				}
			}
		}
	}
}

// P15.1: bytes written out, the example among them: each part in its place, its least byte first.
func TestPutWritten(t *testing.T) {
	for _, x := range []struct {
		m api.Msg
		b string
	}{
		{api.Msg{Kind: api.WantRead, Page: 258, Node: 3}, "\x01\x03\x00\x02\x01\x00\x00\x00\x00\x00\x00"}, // the example
		{api.Msg{Kind: api.WantRead}, "\x01\x00\x00\x00\x00\x00\x00\x00\x00\x00\x00"},
		{api.Msg{Kind: api.WantWrite}, "\x02\x00\x00\x00\x00\x00\x00\x00\x00\x00\x00"},
		{api.Msg{Kind: api.Copy}, "\x03\x00\x00\x00\x00\x00\x00\x00\x00\x00\x00"},
		{api.Msg{Kind: api.Grant}, "\x04\x00\x00\x00\x00\x00\x00\x00\x00\x00\x00"},
		{api.Msg{Kind: api.Forget}, "\x05\x00\x00\x00\x00\x00\x00\x00\x00\x00\x00"},
		{api.Msg{Kind: api.Forgot}, "\x06\x00\x00\x00\x00\x00\x00\x00\x00\x00\x00"},
		{api.Msg{Kind: api.Forgot, Node: 15}, "\x06\x0f\x00\x00\x00\x00\x00\x00\x00\x00\x00"},
		{api.Msg{Kind: api.WantWrite, Hops: 255}, "\x02\x00\xff\x00\x00\x00\x00\x00\x00\x00\x00"},
		{api.Msg{Kind: api.WantWrite, Page: 1}, "\x02\x00\x00\x01\x00\x00\x00\x00\x00\x00\x00"},
		{api.Msg{Kind: api.WantWrite, Page: 256}, "\x02\x00\x00\x00\x01\x00\x00\x00\x00\x00\x00"},
		{api.Msg{Kind: api.WantWrite, Page: 65535}, "\x02\x00\x00\xff\xff\x00\x00\x00\x00\x00\x00"},
		{api.Msg{Kind: api.Grant, Set: 1}, "\x04\x00\x00\x00\x00\x00\x00\x01\x00\x00\x00"},
		{api.Msg{Kind: api.Grant, Set: 0x8000}, "\x04\x00\x00\x00\x00\x00\x00\x00\x80\x00\x00"},
		{api.Msg{Kind: api.Grant, Set: 0xffff}, "\x04\x00\x00\x00\x00\x00\x00\xff\xff\x00\x00"},
		{api.Msg{Kind: api.Copy, Data: []byte{7}}, "\x03\x00\x00\x00\x00\x00\x00\x00\x00\x01\x00\x07"},
		{api.Msg{Kind: api.Copy, Page: 0x1234, Node: 5, Hops: 6, Data: []byte{0, 1, 2}}, "\x03\x05\x06\x34\x12\x00\x00\x00\x00\x03\x00\x00\x01\x02"},
		{api.Msg{Kind: api.Grant, Page: 65535, Node: 15, Hops: 255, Set: 0x8001, Data: []byte{0, 9}}, "\x04\x0f\xff\xff\xff\x00\x00\x01\x80\x02\x00\x00\x09"},
		{api.Msg{Kind: api.Grant, Page: 0x0a0b, Node: 12, Hops: 13, Set: 0x0e0f, Data: filled(256, 1)}, "\x04\x0c\x0d\x0b\x0a\x00\x00\x0f\x0e\x00\x01" + string(filled(256, 1))},
		{api.Msg{Kind: api.Copy, Data: filled(pageSize, 1)}, "\x03\x00\x00\x00\x00\x00\x00\x00\x00\x00\x10" + string(filled(pageSize, 1))},
		{api.Msg{Kind: api.Copy, Data: noughts(pageSize-1, 0xff)}, "\x03\x00\x00\x00\x00\x00\x00\x00\x00\x00\x10" + strings.Repeat("\x00", pageSize-1) + "\xff"},
		{api.Msg{Kind: api.Copy, Data: filled(pageSize-1, 1)}, "\x03\x00\x00\x00\x00\x00\x00\x00\x00\xff\x0f" + string(filled(pageSize-1, 1))},
	} {
		if b, e := msg.Put(x.m); e != api.OK || string(b) != x.b {
			t.Errorf("Put(%s): %x %v, not %x", short(x.m), b, e, x.b)
		}
		isMsg(t, []byte(x.b), x.m)
	}
}

// P15.1: Put of all right messages, and each of them with one part that is wrong.
func TestPut(t *testing.T) {
	for _, m := range someRight() {
		isRight(t, m)
		for _, bad := range []func(m *api.Msg){
			func(m *api.Msg) { m.Kind = 0 },
			func(m *api.Msg) { m.Kind = 7 },
			func(m *api.Msg) { m.Kind += 256 },
			func(m *api.Msg) { m.Page = -1 },
			func(m *api.Msg) { m.Page += 65536 },
			func(m *api.Msg) { m.Node = -1 },
			func(m *api.Msg) { m.Node += 16 },
			func(m *api.Msg) { m.Node += 256 },
			func(m *api.Msg) { m.Hops = -1 },
			func(m *api.Msg) { m.Hops += 256 },
			func(m *api.Msg) { m.Data = []byte{1, 0} },
			func(m *api.Msg) { m.Data = filled(pageSize+1, 1) },
			func(m *api.Msg) { m.Data = filled(65536, 1) },
		} {
			n := m
			bad(&n)
			isWrong(t, n)
		}
	}
}

// P15.1: nothing that is handed in is changed or kept, and no answer shares memory with it or with another one.
func TestPutKeeps(t *testing.T) {
	for _, d := range append(datas(), noDatas()...) {
		for _, k := range kinds {
			data := row(d)
			was := slices.Clone(whole(data))
			m := api.Msg{Kind: k, Page: 300, Node: 4, Hops: 5, Data: data}
			want, ok := encoded(m), right(m)
			if !ok {
				want = nil
			}
			a, _ := msg.Put(m)
			b, _ := msg.Put(m)
			msg.Right(m)
			msg.Text(m)
			if !msg.Same(m, m) || !bytes.Equal(whole(data), was) {
				t.Errorf("%s: its bytes were changed", short(m))
			}
			spoil(a)
			if !bytes.Equal(b, want) || !bytes.Equal(whole(data), was) {
				t.Errorf("Put(%s): answers share memory", short(m))
			}
			spoil(data)
			if !bytes.Equal(b, want) {
				t.Errorf("Put(%s): what was handed in was kept", short(m))
			}
		}
	}
}

// P15.1: the bytes of each right message are its, each prefix of them and all with more behind are none's,
// whatever stands in the room behind them.
func TestGet(t *testing.T) {
	for _, m := range someRight() {
		b := encoded(m)
		isMsg(t, b, m)
		isMsg(t, row(b), m)
		step := max(1, len(b)/60)
		for n := 0; n < len(b); n += step {
			isNone(t, b[:n], "a prefix")
			isNone(t, slices.Clone(b[:n]), "a prefix")
		}
		for n := range headSize {
			isNone(t, b[:n], "a prefix of the numbers")
			isNone(t, b[n+1:], "without the first ones")
		}
		isNone(t, b[:len(b)-1], "without the last one")
		for _, more := range []string{"\x00", "\x01", "\xff", "\x00\x00", "\x05\x07", string(noughts(pageSize)), string(filled(65536, 1)), string(b)} {
			isNone(t, append(slices.Clone(b), more...), "more behind")
		}
		isNone(t, append([]byte{0}, b...), "one ahead")
	}
}

// P15.1: no bytes, nil, and rows of one byte alone, of all lengths up to a few more than the numbers', are no message's.
func TestGetNothing(t *testing.T) {
	isNone(t, nil, "nil")
	isNone(t, []byte{}, "none")
	isNone(t, encoded(api.Msg{Kind: wantRead})[:0], "none, with room behind")
	for v := range 256 {
		for n := 1; n < 30; n++ {
			isNone(t, bytes.Repeat([]byte{byte(v)}, n), "a row")
		}
	}
}

// P15.1: each byte of the numbers at each value it may have: the message is another one, or there is none.
func TestGetEachByte(t *testing.T) {
	for _, m := range someRight() {
		if len(m.Data) > 300 {
			continue
		}
		for i := range headSize {
			for v := range 256 {
				b := encoded(m)
				b[i] = byte(v)
				if want, ok := decoded(b); ok {
					isMsg(t, b, want)
				} else {
					isNone(t, b, "one byte is another one")
				}
			}
		}
	}
}

// P15.1: bytes whose kind, page, node or set is none that a right message has, written out.
func TestGetWrong(t *testing.T) {
	for _, b := range []string{
		"\x00\x00\x00\x00\x00\x00\x00\x00\x00\x00\x00", // no kind
		"\x07\x00\x00\x00\x00\x00\x00\x00\x00\x00\x00",
		"\xff\x00\x00\x00\x00\x00\x00\x00\x00\x00\x00",
		"\x81\x00\x00\x00\x00\x00\x00\x00\x00\x00\x00",
		"\x00\x00\x00\x00\x00\x00\x00\x00\x00\x01\x00\x01",
		"\x01\x10\x00\x00\x00\x00\x00\x00\x00\x00\x00", // no node
		"\x01\x13\x00\x00\x00\x00\x00\x00\x00\x00\x00",
		"\x01\xff\x00\x00\x00\x00\x00\x00\x00\x00\x00",
		"\x01\x00\x00\x00\x00\x01\x00\x00\x00\x00\x00", // no page
		"\x01\x00\x00\x02\x01\x01\x00\x00\x00\x00\x00",
		"\x01\x00\x00\x00\x00\x00\x01\x00\x00\x00\x00",
		"\x01\x00\x00\x00\x00\x00\x80\x00\x00\x00\x00",
		"\x01\x00\x00\xff\xff\xff\xff\x00\x00\x00\x00",
		"\x01\x00\x00\xff\xff\xff\x7f\x00\x00\x00\x00",
		"\x04\x00\x00\x00\x00\x01\x00\x00\x00\x01\x00\x09",
		"\x01\x00\x00\x00\x00\x00\x00\x01\x00\x00\x00", // a set
		"\x02\x00\x00\x00\x00\x00\x00\x00\x80\x00\x00",
		"\x03\x00\x00\x00\x00\x00\x00\x01\x00\x00\x00",
		"\x03\x00\x00\x00\x00\x00\x00\x01\x00\x01\x00\x09",
		"\x05\x00\x00\x00\x00\x00\x00\xff\xff\x00\x00",
		"\x06\x00\x00\x00\x00\x00\x00\x02\x00\x00\x00",
		"\x01\x00\x00\x00\x00\x00\x00\x00\x00\x01\x00\x09", // Data
		"\x02\x00\x00\x00\x00\x00\x00\x00\x00\x01\x00\x09",
		"\x05\x00\x00\x00\x00\x00\x00\x00\x00\x01\x00\x09",
		"\x06\x00\x00\x00\x00\x00\x00\x00\x00\x02\x00\x00\x09",
	} {
		isNone(t, []byte(b), "wrong")
	}
}

// lengthened are a message's bytes, but that another length is told.
func lengthened(m api.Msg, n int) []byte {
	b := encoded(m)
	binary.LittleEndian.PutUint16(b[9:], uint16(n))
	return b
}

// P15.1: a length that says more or less than there is, whatever may stand in the room behind.
func TestGetLength(t *testing.T) {
	for _, k := range kinds {
		for n := range 5 {
			m := api.Msg{Kind: k, Data: bytes.Repeat([]byte{9}, n)}
			for said := range 65536 {
				g, ok := msg.Get(row(lengthened(m, said)))
				if want := said == n && (n == 0 || carries(k)); ok != want || !ok && !alike(g, api.Msg{}) {
					t.Fatalf("%s of which %d bytes are told: %s %v", short(m), said, short(g), ok)
				}
			}
		}
	}
	for _, n := range []int{255, 256, 257, pageSize - 1, pageSize} {
		m := api.Msg{Kind: grant, Set: 3, Data: filled(n, 1)}
		for said := range 65536 {
			if g, ok := msg.Get(lengthened(m, said)); ok != (said == n) {
				t.Fatalf("%s of which %d bytes are told: %s %v", short(m), said, short(g), ok)
			}
		}
	}
	for n := range 300 { // 65536 bytes more than are told
		isNone(t, lengthened(api.Msg{Kind: copied, Data: filled(65536+n, 1)}, n), "more than the length can tell")
	}
}

// P15.1: Data that no right message has: a nought at its end, or more than a page's bytes.
func TestGetDatas(t *testing.T) {
	for _, k := range kinds {
		for _, d := range noDatas() {
			isNone(t, encoded(api.Msg{Kind: k, Page: 1, Node: 1, Data: d}), "Data that may not be")
		}
		for _, d := range datas() {
			m := api.Msg{Kind: k, Page: 1, Node: 1, Data: d}
			if carries(k) {
				isMsg(t, encoded(m), m)
			} else {
				isNone(t, encoded(m), "Data of a kind that has none")
			}
		}
	}
}

// P15.1: Get changes nothing, and what it answers is a copy.
func TestGetKeeps(t *testing.T) {
	for _, m := range someRight() {
		b := row(encoded(m))
		was := slices.Clone(whole(b))
		x, _ := msg.Get(b)
		y, _ := msg.Get(b)
		if !bytes.Equal(whole(b), was) {
			t.Errorf("Get(%s) changed its bytes", short(m))
		}
		spoil(x.Data)
		if !alike(y, m) || !bytes.Equal(whole(b), was) {
			t.Errorf("Get(%s): answers share memory", short(m))
		}
		spoil(b)
		if !alike(y, m) {
			t.Errorf("Get(%s): what was handed in was kept", short(m))
		}
	}
}

// P15.1: Trim, written out.
func TestTrimWritten(t *testing.T) {
	for _, x := range []struct{ b, want string }{
		{"", ""},
		{"\x00", ""},
		{"\x00\x00", ""},
		{"\x00\x00\x00\x00\x00\x00\x00\x00\x00", ""},
		{"\x01", "\x01"},
		{"\xff", "\xff"},
		{"\x80", "\x80"},
		{"0", "0"},
		{"\x00\x01", "\x00\x01"},
		{"\x00\x00\x01", "\x00\x00\x01"},
		{"\x01\x00", "\x01"},
		{"\x01\x00\x00\x00", "\x01"},
		{"\x00\x01\x00\x00", "\x00\x01"},
		{"\x01\x00\x02", "\x01\x00\x02"},
		{"\x01\x00\x00\x02\x00", "\x01\x00\x00\x02"},
		{"\x00\x01\x00\x02\x00\x00", "\x00\x01\x00\x02"},
		{"\x00\xff\x00", "\x00\xff"},
		{"\x01 \x00", "\x01 "},
		{"\x01\n\x00\x00", "\x01\n"},
	} {
		if g := msg.Trim(row([]byte(x.b))); string(g) != x.want {
			t.Errorf("Trim(%x): %x, not %x", x.b, g, x.want)
		}
	}
	if g := msg.Trim(nil); len(g) != 0 {
		t.Errorf("Trim(nil): %x", g)
	}
}

// P15.1: Trim of rows of many lengths with noughts behind, of pages and of more than one.
func TestTrim(t *testing.T) {
	rows := append(datas(), nil, []byte{}, filled(65536, 1), filled(100000, 0xff))
	for v := 1; v < 256; v++ {
		rows = append(rows, []byte{byte(v)}, noughts(3, byte(v)))
	}
	for _, b := range rows {
		for _, n := range []int{0, 1, 2, 7, 8, 9, 100, pageSize, max(0, pageSize-len(b))} {
			if g := msg.Trim(row(append(slices.Clone(b), make([]byte, n)...))); !bytes.Equal(g, b) {
				t.Errorf("Trim of %d bytes with %d noughts behind: %d bytes", len(b), n, len(g))
			}
		}
	}
	for _, n := range []int{1, 255, 256, pageSize - 1, pageSize, pageSize + 1, 65536} {
		if g := msg.Trim(noughts(n)); len(g) != 0 {
			t.Errorf("Trim of %d noughts: %d bytes", n, len(g))
		}
	}
}

// P15.1: what Trim of a page's bytes answers a Copy and a Grant may have.
func TestTrimmedIsRight(t *testing.T) {
	for _, d := range append(datas(), noDatas()...) {
		if len(d) > pageSize {
			continue
		}
		for _, k := range []api.MsgKind{copied, grant} {
			isRight(t, api.Msg{Kind: k, Data: msg.Trim(d)})
		}
	}
}

// P15.1: Trim changes nothing, and what it answers is a copy.
func TestTrimKeeps(t *testing.T) {
	for _, d := range append(datas(), noDatas()...) {
		b := row(d)
		was := slices.Clone(whole(b))
		want := strings.TrimRight(string(d), "\x00")
		x, y := msg.Trim(b), msg.Trim(b)
		if !bytes.Equal(whole(b), was) {
			t.Errorf("Trim of %d bytes changed them", len(b))
		}
		spoil(x)
		if string(y) != want || !bytes.Equal(whole(b), was) {
			t.Errorf("Trim of %d bytes: answers share memory", len(b))
		}
		spoil(b)
		if string(y) != want {
			t.Errorf("Trim of %d bytes: what was handed in was kept", len(b))
		}
	}
}

// isSame holds Same of two messages, both ways round.
func isSame(t *testing.T, a, b api.Msg, want bool) {
	t.Helper()
	if msg.Same(a, b) != want || msg.Same(b, a) != want {
		t.Errorf("Same(%s, %s) isn't %v", short(a), short(b), want)
	}
}

// someMsgs are right ones and wrong ones.
func someMsgs() []api.Msg {
	l := append(someRight(), api.Msg{}, api.Msg{Data: []byte{0}}, api.Msg{Kind: 7, Set: 5, Data: []byte{1, 0}})
	for _, x := range ends {
		l = append(l, api.Msg{Kind: api.MsgKind(x)}, api.Msg{Page: x}, api.Msg{Node: x}, api.Msg{Hops: x}, api.Msg{Kind: api.MsgKind(x), Page: x, Node: x, Hops: x, Set: 7})
	}
	for _, d := range noDatas() {
		l = append(l, api.Msg{Kind: grant, Set: 3, Data: d}, api.Msg{Kind: wantRead, Data: d})
	}
	return l
}

// P15.1: messages are the same as one that is alike, right or not, wherever their Data lie.
func TestSame(t *testing.T) {
	for _, m := range someMsgs() {
		isSame(t, m, m, true)
		n := m
		n.Data = row(m.Data)
		isSame(t, m, n, true)
		n.Data = slices.Clone(m.Data)
		isSame(t, m, n, true)
		if len(m.Data) == 0 {
			n.Data = nil
			isSame(t, m, n, true)
			n.Data = []byte{}
			isSame(t, m, n, true)
			n.Data = filled(4, 1)[:0]
			isSame(t, m, n, true)
		}
	}
}

// P15.1: messages that differ in one part alone are not the same: by one, or by what fewer bits would not tell.
func TestSameOnePart(t *testing.T) {
	for _, m := range someMsgs() {
		for i := range 64 {
			n := m
			n.Kind ^= 1 << i
			isSame(t, m, n, false)
			n = m
			n.Page ^= 1 << i
			isSame(t, m, n, false)
			n = m
			n.Node ^= 1 << i
			isSame(t, m, n, false)
			n = m
			n.Hops ^= 1 << i
			isSame(t, m, n, false)
			n = m
			n.Set ^= 1 << (i % 16)
			isSame(t, m, n, false)
		}
		for _, more := range []string{"\x00", "\x01", "\xff\x00"} {
			n := m
			n.Data = append(slices.Clone(m.Data), more...)
			isSame(t, m, n, false)
		}
		for i := range 3 {
			if len(m.Data) == 0 {
				break
			}
			n := m
			n.Data = slices.Clone(m.Data)
			n.Data[i*(len(n.Data)-1)/2] ^= 1
			isSame(t, m, n, false)
		}
	}
}

// P15.1: messages that have their numbers in other parts are not the same.
func TestSameParts(t *testing.T) {
	l := []api.Msg{
		{}, {Kind: 1}, {Page: 1}, {Node: 1}, {Hops: 1}, {Set: 1}, {Data: []byte{1}}, {Data: []byte{0}}, {Data: []byte{0, 0}},
		{Kind: 1, Page: 1}, {Kind: 1, Node: 1}, {Kind: 1, Hops: 1}, {Page: 1, Node: 2}, {Page: 2, Node: 1}, {Node: 1, Hops: 2}, {Node: 2, Hops: 1},
		{Kind: -1}, {Page: -1}, {Page: 65535}, {Node: -1}, {Node: 255}, {Hops: -1}, {Hops: 255}, {Set: 65535}, {Kind: 1, Page: 2}, {Kind: 2, Page: 1},
	}
	for i, a := range l {
		for j, b := range l {
			isSame(t, a, b, i == j)
		}
	}
}

// P15.2: Text, written out.
func TestTextWritten(t *testing.T) {
	for _, x := range []struct {
		m    api.Msg
		text string
	}{
		{api.Msg{Kind: api.WantRead, Page: 258, Node: 3}, "read page 258 node 3"},
		{api.Msg{Kind: api.WantWrite}, "write page 0 node 0"},
		{api.Msg{Kind: api.Copy, Page: 65535, Node: 15}, "copy page 65535 node 15"},
		{api.Msg{Kind: api.Grant, Page: 1}, "grant page 1 node 0 set -"},
		{api.Msg{Kind: api.Forget, Node: 10}, "forget page 0 node 10"},
		{api.Msg{Kind: api.Forgot, Page: 7, Node: 1}, "forgot page 7 node 1"},
		{api.Msg{}, "? page 0 node 0"},
		{api.Msg{Kind: 7, Page: 1, Node: 2}, "? page 1 node 2"},
		{api.Msg{Kind: -1, Page: 1, Node: 2}, "? page 1 node 2"},
		{api.Msg{Kind: 7, Page: 1, Node: 2, Hops: 3, Set: 4, Data: []byte{0}}, "? page 1 node 2 hops 3 bytes 1"},
		{api.Msg{Kind: math.MaxInt}, "? page 0 node 0"},
		{api.Msg{Kind: math.MinInt}, "? page 0 node 0"},
		{api.Msg{Kind: api.WantRead, Hops: 1}, "read page 0 node 0 hops 1"},
		{api.Msg{Kind: api.WantWrite, Hops: 255}, "write page 0 node 0 hops 255"},
		{api.Msg{Kind: api.WantWrite, Hops: 256}, "write page 0 node 0 hops 256"},
		{api.Msg{Kind: api.WantWrite, Hops: -1}, "write page 0 node 0 hops -1"},
		{api.Msg{Kind: api.Grant, Set: 1}, "grant page 0 node 0 set 0"},
		{api.Msg{Kind: api.Grant, Set: 0x0200}, "grant page 0 node 0 set 9"},
		{api.Msg{Kind: api.Grant, Set: 0x8009}, "grant page 0 node 0 set 0,3,15"},
		{api.Msg{Kind: api.Grant, Set: 0xffff}, "grant page 0 node 0 set 0,1,2,3,4,5,6,7,8,9,10,11,12,13,14,15"},
		{api.Msg{Kind: api.Grant, Page: 65535, Node: 15, Hops: 255, Set: 0x8001, Data: []byte{0, 9}}, "grant page 65535 node 15 hops 255 set 0,15 bytes 2"},
		{api.Msg{Kind: api.Grant, Hops: 2, Data: []byte{1}}, "grant page 0 node 0 hops 2 set - bytes 1"},
		{api.Msg{Kind: api.Copy, Set: 5}, "copy page 0 node 0"},
		{api.Msg{Kind: api.WantRead, Set: 0xffff}, "read page 0 node 0"},
		{api.Msg{Kind: api.Forgot, Set: 1, Hops: 2}, "forgot page 0 node 0 hops 2"},
		{api.Msg{Kind: api.Copy, Data: []byte{}}, "copy page 0 node 0"},
		{api.Msg{Kind: api.Copy, Data: []byte{1}}, "copy page 0 node 0 bytes 1"},
		{api.Msg{Kind: api.Copy, Data: noughts(4096)}, "copy page 0 node 0 bytes 4096"},
		{api.Msg{Kind: api.Copy, Data: filled(4097, 1)}, "copy page 0 node 0 bytes 4097"},
		{api.Msg{Kind: api.Copy, Data: noughts(65536)}, "copy page 0 node 0 bytes 65536"},
		{api.Msg{Kind: api.Forget, Data: []byte{0, 0}}, "forget page 0 node 0 bytes 2"},
		{api.Msg{Kind: api.WantRead, Hops: 4, Data: []byte{9, 9, 9}}, "read page 0 node 0 hops 4 bytes 3"},
		{api.Msg{Kind: api.WantRead, Page: -1, Node: -2, Hops: -3}, "read page -1 node -2 hops -3"},
		{
			api.Msg{Kind: api.Forgot, Page: math.MaxInt, Node: math.MinInt, Hops: math.MaxInt},
			"forgot page 9223372036854775807 node -9223372036854775808 hops 9223372036854775807",
		},
		{
			api.Msg{Kind: api.Grant, Page: math.MinInt, Node: math.MaxInt, Hops: math.MinInt, Set: 0x8000},
			"grant page -9223372036854775808 node 9223372036854775807 hops -9223372036854775808 set 15",
		},
	} {
		if g := msg.Text(x.m); g != x.text {
			t.Errorf("Text(%s): %q, not %q", short(x.m), g, x.text)
		}
	}
}

// P15.2: Text of each kind and of others, with all parts in all ways, right or not.
func TestText(t *testing.T) {
	for _, m := range someMsgs() {
		for _, k := range append(slices.Clone(kinds), noKinds...) {
			m.Kind = k
			if g, want := msg.Text(m), text(m); g != want {
				t.Errorf("Text(%s): %q, not %q", short(m), g, want)
			}
		}
	}
	for s := range 65536 {
		m := api.Msg{Kind: grant, Page: 1, Node: 2, Set: uint16(s)}
		if g, want := msg.Text(m), text(m); g != want {
			t.Fatalf("Text(%s): %q, not %q", short(m), g, want)
		}
	}
}

// chance makes numbers that are alike in each run.
type chance uint64

// next number below n.
func (c *chance) next(n int) int {
	*c = *c*6364136223846793005 + 1442695040888963407
	return int(uint64(*c)>>33) % n
}

// of a list, one.
func (c *chance) of(l []int) int {
	return l[c.next(len(l))]
}

// data of a message: none, few bytes, or up to a page's, with a nought at their end now and then.
func (c *chance) data() []byte {
	n := []int{0, 1, c.next(20), c.next(300), c.next(pageSize) + 1, pageSize}[c.next(6)]
	b := make([]byte, n)
	for i := range b {
		b[i] = byte(c.next(256))
	}
	if n > 0 && c.next(10) > 0 {
		b[n-1] |= 1
	}
	if n > 9 && c.next(3) == 0 {
		clear(b[c.next(n/2) : n-1])
	}
	return row(b)
}

// right message.
func (c *chance) right() api.Msg {
	m := api.Msg{Kind: kinds[c.next(6)], Page: c.next(65536), Node: c.next(16), Hops: c.next(256)}
	if c.next(3) == 0 {
		m.Page, m.Hops = c.of(pages), c.of(hops)
	}
	if m.Kind == grant {
		m.Set = uint16(c.next(65536))
	}
	if carries(m.Kind) {
		m.Data = bytes.TrimRight(c.data(), "\x00")
	}
	return m
}

// hurt message: one part is another one, which may be right still.
func (c *chance) hurt(m api.Msg) api.Msg {
	switch c.next(6) {
	case 0:
		m.Kind = noKinds[c.next(len(noKinds))]
	case 1:
		m.Page = c.of(noPages)
	case 2:
		m.Node = c.of(noNodes)
	case 3:
		m.Hops = c.of(noHops)
	case 4:
		m.Set = uint16(c.next(4))
	case 5:
		m.Data = c.data()
	}
	return m
}

// hurtBytes are a message's bytes that one byte more stands in, that end early, or of which one is another one.
func (c *chance) hurtBytes(b []byte) []byte {
	b = slices.Clone(b)
	switch c.next(4) {
	case 0:
		return slices.Insert(b, c.next(len(b)+1), byte(c.next(256)))
	case 1:
		return b[:c.next(len(b)+1)]
	case 2:
		b[c.next(headSize)] = byte(c.next(256))
	case 3:
		b[c.next(len(b))] ^= 1 << c.next(8)
	}
	return b
}

// P15.1, P15.2: a long mixed run: of right messages of each kind Get of Put is the message; of others, and of
// bytes that were hurt, all is as the model says.
func TestMany(t *testing.T) {
	c := chance(15)
	last := api.Msg{}
	for i := range 30000 {
		m := c.right()
		isRight(t, m)
		b, _ := msg.Put(m)
		isMsg(t, b, m)
		g, _ := msg.Get(b)
		isSame(t, g, m, true)
		isSame(t, m, last, alike(m, last))
		x := c.hurt(m)
		is(t, x)
		isSame(t, m, x, alike(m, x))
		hurt := c.hurtBytes(b)
		if want, ok := decoded(hurt); ok {
			isMsg(t, hurt, want)
		} else {
			isNone(t, hurt, "hurt")
		}
		for _, y := range []api.Msg{m, x} {
			if g, want := msg.Text(y), text(y); g != want {
				t.Errorf("Text(%s): %q, not %q", short(y), g, want)
			}
		}
		if t.Failed() {
			t.Fatalf("step %d", i)
		}
		last = m
	}
}
