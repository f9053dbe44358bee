package wire_test

import (
	"bytes"
	"encoding/binary"
	"fmt"
	"hash/crc32"
	"math"
	"slices"
	"strings"
	"testing"

	"runrig/api"
	"runrig/wire"
)

// What a right frame is bounded by, and where its bytes have what.
const (
	mostNodes = 16
	mostData  = 4120

	bodyPlace   = 2
	fromPlace   = 3
	toPlace     = 4
	seqPlace    = 5
	ackPlace    = 13
	lengthPlace = 21
	headSize    = 23
	sumSize     = 4

	greatest = math.MaxUint64
)

// noNodes are numbers of no nodes: those just outside, the ends of int, and such as are a node in fewer bits.
var noNodes = []int{
	-1, -2, -15, -16, -17, 16, 17, 18, 31, 32, 127, 128, 254, 255, 256, 256 + 3, -256, -256 + 3, 65536, 65536 + 3, -65536,
	math.MaxInt, math.MaxInt - 1, math.MinInt, math.MinInt + 1, math.MinInt + 3, math.MaxInt32, math.MinInt32,
	1 << 31, 1<<31 + 3, 1 << 32, 1<<32 + 3, -1 << 32, -1<<32 + 3, 1 << 62, 1<<62 + 3,
}

// words are numbers of 64 bits that aren't 0: the least, the greatest, and those whose bytes are unlike.
var words = []uint64{
	1, 2, 3, 127, 128, 254, 255, 256, 257, 0xff00, 0xffff, 1 << 16, 1 << 24, 1<<32 - 1, 1 << 32, 1<<32 + 1, 1<<63 - 1, 1 << 63, 1<<63 + 1,
	0x0102030405060708, 0xf1e2d3c4b5a69788, 0xff00000000000000, 0x00ff000000000000, greatest, greatest - 1,
}

// acks are words and 0.
var acks = append([]uint64{0}, words...)

// row has these bytes and spare room behind them that isn't theirs.
func row(b []byte) []byte {
	return append(slices.Clone(b), bytes.Repeat([]byte{0x9d}, 20)...)[:len(b)]
}

// filled has n bytes of all kinds.
func filled(n int) []byte {
	b := make([]byte, n)
	for i := range b {
		b[i] = byte(0x35 + 29*i + i*i/7)
	}
	return row(b)
}

// datas are those that a frame with Body may have: none, few, up to the most, of noughts, of ones and of all kinds.
func datas() [][]byte {
	l := [][]byte{nil, {}, {0}, {1}, {0xff}, {0, 0}, {0, 9, 0}, []byte("RR"), bytes.Repeat([]byte{0xff}, 300)}
	for _, n := range []int{1, 2, 3, 4, 5, 22, 23, 24, 27, 100, 254, 255, 256, 257, 511, 512, 1000, 4095, 4096, 4097, mostData - 1, mostData} {
		l = append(l, filled(n), make([]byte, n))
	}
	return l
}

// noDatas are those that no frame may have: more than the most.
func noDatas() [][]byte {
	l := [][]byte{make([]byte, mostData+1), make([]byte, 65536)}
	for _, n := range []int{mostData + 1, mostData + 2, 2 * mostData, 8192, 65535, 65536, 65536 + 1, 65536 + mostData, 65536 + mostData + 1} {
		l = append(l, filled(n))
	}
	return l
}

// right tells whether a frame is, part by part.
func right(f api.Frame) bool {
	switch {
	case f.From < 0 || f.From > 15 || f.To < 0 || f.To > 15:
		return false
	case f.From == f.To:
		return false
	case f.Body:
		return f.Seq > 0 && len(f.Data) < mostData+1
	}
	return f.Seq == 0 && string(f.Data) == ""
}

// sealed are bytes and their sum behind them.
func sealed(b []byte) []byte {
	return binary.LittleEndian.AppendUint32(slices.Clone(b), crc32.ChecksumIEEE(b))
}

// content of a right frame, byte by byte: its bytes without the sum.
func content(f api.Frame) []byte {
	b := []byte{0x52, 0x52, 0, byte(f.From), byte(f.To)}
	if f.Body {
		b[bodyPlace] = 1
	}
	for i := range 8 {
		b = append(b, byte(f.Seq>>(8*i)))
	}
	for i := range 8 {
		b = append(b, byte(f.Ack>>(8*i)))
	}
	b = append(b, byte(len(f.Data)), byte(len(f.Data)/256))
	return append(b, f.Data...)
}

// encoded are a right frame's bytes.
func encoded(f api.Frame) []byte {
	return sealed(content(f))
}

// decoded is the right frame whose bytes these are.
func decoded(b []byte) (api.Frame, bool) {
	if len(b) < headSize+sumSize {
		return api.Frame{}, false
	}
	f := api.Frame{
		From: int(b[fromPlace]), To: int(b[toPlace]), Body: b[bodyPlace] == 1,
		Seq: binary.LittleEndian.Uint64(b[seqPlace:]), Ack: binary.LittleEndian.Uint64(b[ackPlace:]),
		Data: b[headSize : len(b)-sumSize],
	}
	if !right(f) || !bytes.Equal(encoded(f), b) {
		return api.Frame{}, false
	}
	return f, true
}

// alike tells whether frames are, part by part.
func alike(a, b api.Frame) bool {
	return fmt.Sprint(a.From, a.To, a.Body, a.Seq, a.Ack) == fmt.Sprint(b.From, b.To, b.Body, b.Seq, b.Ack) &&
		string(a.Data) == string(b.Data)
}

// short tells a frame in few words.
func short(f api.Frame) string {
	return fmt.Sprintf("{%d to %d body %v seq %d ack %d, %d bytes}", f.From, f.To, f.Body, f.Seq, f.Ack, len(f.Data))
}

// begin is the beginning of bytes.
func begin(b []byte) []byte {
	return b[:min(len(b), 40)]
}

// whole is a row and its spare room.
func whole(b []byte) []byte {
	return b[:cap(b)]
}

// spoil lays other bytes over a row and over its spare room.
func spoil(b []byte) {
	for i := range whole(b) {
		whole(b)[i] ^= 0xa5
	}
}

// isRight holds Right and Put of a frame that is right.
func isRight(t *testing.T, f api.Frame) {
	t.Helper()
	if !wire.Right(f) {
		t.Errorf("Right(%s) is false", short(f))
	}
	if b, e := wire.Put(f); e != api.OK || !bytes.Equal(b, encoded(f)) {
		t.Errorf("Put(%s): %x %v", short(f), begin(b), e)
	}
}

// isWrong holds Right and Put of a frame that isn't right.
func isWrong(t *testing.T, f api.Frame) {
	t.Helper()
	if wire.Right(f) {
		t.Errorf("Right(%s) is true", short(f))
	}
	if b, e := wire.Put(f); e != api.ErrArg || len(b) != 0 {
		t.Errorf("Put(%s): %x %v", short(f), begin(b), e)
	}
}

// is holds Right and Put of a frame against the model.
func is(t *testing.T, f api.Frame) {
	t.Helper()
	if right(f) {
		isRight(t, f)
		return
	}
	isWrong(t, f)
}

// isNone holds that bytes are no frame's.
func isNone(t *testing.T, b []byte, why string) {
	t.Helper()
	if f, ok := wire.Get(b); ok || !alike(f, api.Frame{}) {
		t.Errorf("%s: Get(%x): %s %v", why, begin(b), short(f), ok)
	}
}

// isFrame holds that bytes are a frame's.
func isFrame(t *testing.T, b []byte, want api.Frame) {
	t.Helper()
	if f, ok := wire.Get(b); !ok || !alike(f, want) {
		t.Errorf("Get(%x): %s %v, not %s", begin(b), short(f), ok, short(want))
	}
}

// isGot holds Get of bytes against the model.
func isGot(t *testing.T, b []byte, why string) {
	t.Helper()
	if want, ok := decoded(b); ok {
		isFrame(t, b, want)
		return
	}
	isNone(t, b, why)
}

// someRight are right frames with Body and without, with all that one may have at its least and its greatest.
func someRight() []api.Frame {
	l := []api.Frame{
		{From: 1, To: 2, Ack: 3}, {From: 0, To: 1}, {From: 1, To: 0}, {From: 15, To: 0}, {From: 0, To: 15, Ack: greatest}, {From: 14, To: 15, Data: []byte{}},
		{From: 15, To: 0, Body: true, Seq: greatest, Ack: 1 << 63, Data: make([]byte, mostData)}, {From: 0, To: 15, Body: true, Seq: 1},
	}
	for _, a := range acks {
		l = append(l, api.Frame{From: 9, To: 3, Ack: a}, api.Frame{From: 3, To: 9, Body: true, Seq: 7, Ack: a, Data: []byte{8}})
	}
	for _, s := range words {
		l = append(l, api.Frame{From: 2, To: 12, Body: true, Seq: s}, api.Frame{From: 12, To: 2, Body: true, Seq: s, Ack: s - 1, Data: filled(30)})
	}
	for _, d := range datas() {
		l = append(l, api.Frame{From: 5, To: 6, Body: true, Seq: 0x0807060504030201, Ack: 0xa1a2a3a4a5a6a7a8, Data: d})
	}
	return l
}

// few right frames, of few bytes, of more, and of the most.
func few() []api.Frame {
	return []api.Frame{
		{From: 1, To: 2, Ack: 3},
		{From: 0, To: 15, Ack: greatest},
		{From: 8, To: 0, Body: true, Seq: 1},
		{From: 15, To: 14, Body: true, Seq: greatest, Ack: greatest, Data: []byte{0}},
		{From: 7, To: 11, Body: true, Seq: 0x0102030405060708, Ack: 0x1112131415161718, Data: filled(300)},
		{From: 3, To: 4, Body: true, Seq: 5, Ack: 6, Data: filled(mostData)},
	}
}

// P16.1: From and To are nodes, unlike: at and beside the bounds, at the ends of int, alike and unlike.
func TestNodes(t *testing.T) {
	l := slices.Clone(noNodes)
	for n := range mostNodes {
		l = append(l, n)
	}
	for _, from := range l {
		for _, to := range l {
			is(t, api.Frame{From: from, To: to})
			is(t, api.Frame{From: from, To: to, Ack: 5, Data: []byte{}})
			is(t, api.Frame{From: from, To: to, Body: true, Seq: 1})
			is(t, api.Frame{From: from, To: to, Body: true, Seq: greatest, Data: []byte{1}})
		}
	}
	for n := range mostNodes {
		isWrong(t, api.Frame{From: n, To: n})
		isWrong(t, api.Frame{From: n, To: n, Body: true, Seq: 1})
		isRight(t, api.Frame{From: n, To: (n + 1) % mostNodes})
		isRight(t, api.Frame{From: (n + 1) % mostNodes, To: n, Body: true, Seq: 1})
	}
	isWrong(t, api.Frame{})
	isWrong(t, api.Frame{Body: true, Seq: 1})
}

// P16.1: with Body Seq is any but 0, and Data any of at most so many bytes.
func TestWithBody(t *testing.T) {
	for _, a := range acks {
		for _, s := range words {
			isRight(t, api.Frame{From: 4, To: 5, Body: true, Seq: s, Ack: a})
			isRight(t, api.Frame{From: 4, To: 5, Body: true, Seq: s, Ack: a, Data: []byte{6}})
			isWrong(t, api.Frame{From: 4, To: 4, Body: true, Seq: s, Ack: a})
		}
		isWrong(t, api.Frame{From: 4, To: 5, Body: true, Ack: a})
		isWrong(t, api.Frame{From: 4, To: 5, Body: true, Ack: a, Data: []byte{6}})
	}
	for _, s := range []uint64{1, 2, 1 << 32, 1 << 63, greatest} {
		for _, d := range datas() {
			isRight(t, api.Frame{From: 15, To: 0, Body: true, Seq: s, Data: d})
			isWrong(t, api.Frame{From: 15, To: 0, Body: true, Data: d})
			isWrong(t, api.Frame{From: 15, To: 16, Body: true, Seq: s, Data: d})
		}
		for _, d := range noDatas() {
			isWrong(t, api.Frame{From: 15, To: 0, Body: true, Seq: s, Data: d})
			isWrong(t, api.Frame{From: 15, To: 0, Body: true, Data: d})
		}
	}
}

// P16.1: without Body Seq is 0 and Data are none, whatever Ack is.
func TestWithoutBody(t *testing.T) {
	for _, a := range acks {
		isRight(t, api.Frame{From: 4, To: 5, Ack: a})
		isRight(t, api.Frame{From: 4, To: 5, Ack: a, Data: []byte{}})
		isRight(t, api.Frame{From: 4, To: 5, Ack: a, Data: filled(9)[:0]})
		isWrong(t, api.Frame{From: 4, To: 5, Ack: a, Data: []byte{0}})
		isWrong(t, api.Frame{From: 4, To: 5, Ack: a, Data: []byte{1}})
		for _, s := range words {
			isWrong(t, api.Frame{From: 4, To: 5, Seq: s, Ack: a})
			isWrong(t, api.Frame{From: 4, To: 5, Seq: s, Ack: a, Data: []byte{1}})
		}
	}
	for _, d := range append(datas(), noDatas()...) {
		is(t, api.Frame{From: 0, To: 15, Ack: 1, Data: d})
		isWrong(t, api.Frame{From: 0, To: 15, Seq: 1, Data: d})
	}
}

// P16.1: all parts at and beside their bounds, by the side of one another.
func TestTogether(t *testing.T) {
	for _, from := range []int{math.MinInt, -1, 0, 1, 15, 16, math.MaxInt} {
		for _, to := range []int{math.MinInt, -1, 0, 1, 15, 16, math.MaxInt} {
			for _, body := range []bool{false, true} {
				for _, s := range []uint64{0, 1, greatest} {
					for _, a := range []uint64{0, 1, greatest} {
						for _, d := range [][]byte{nil, {}, {0}, {1}, filled(mostData), filled(mostData + 1)} {
							is(t, api.Frame{From: from, To: to, Body: body, Seq: s, Ack: a, Data: d})
						}
					}
				}
			}
		}
	}
}

// P16.1: bytes written out, the example among them: each part in its place, the least byte first, and the sum behind.
func TestPutWritten(t *testing.T) {
	for _, x := range []struct {
		f api.Frame
		b string
	}{
		{api.Frame{From: 1, To: 2, Ack: 3}, "RR\x00\x01\x02" + "\x00\x00\x00\x00\x00\x00\x00\x00" + "\x03\x00\x00\x00\x00\x00\x00\x00" + "\x00\x00"}, // the example
		{api.Frame{From: 0, To: 1}, "RR\x00\x00\x01" + "\x00\x00\x00\x00\x00\x00\x00\x00" + "\x00\x00\x00\x00\x00\x00\x00\x00" + "\x00\x00"},
		{api.Frame{From: 15, To: 0}, "RR\x00\x0f\x00" + "\x00\x00\x00\x00\x00\x00\x00\x00" + "\x00\x00\x00\x00\x00\x00\x00\x00" + "\x00\x00"},
		{api.Frame{From: 0, To: 15}, "RR\x00\x00\x0f" + "\x00\x00\x00\x00\x00\x00\x00\x00" + "\x00\x00\x00\x00\x00\x00\x00\x00" + "\x00\x00"},
		{api.Frame{From: 0, To: 15, Ack: greatest}, "RR\x00\x00\x0f" + "\x00\x00\x00\x00\x00\x00\x00\x00" + "\xff\xff\xff\xff\xff\xff\xff\xff" + "\x00\x00"},
		{api.Frame{From: 2, To: 3, Ack: 1 << 63}, "RR\x00\x02\x03" + "\x00\x00\x00\x00\x00\x00\x00\x00" + "\x00\x00\x00\x00\x00\x00\x00\x80" + "\x00\x00"},
		{api.Frame{From: 3, To: 2, Body: true, Seq: 1}, "RR\x01\x03\x02" + "\x01\x00\x00\x00\x00\x00\x00\x00" + "\x00\x00\x00\x00\x00\x00\x00\x00" + "\x00\x00"},
		{api.Frame{From: 3, To: 2, Body: true, Seq: greatest}, "RR\x01\x03\x02" + "\xff\xff\xff\xff\xff\xff\xff\xff" + "\x00\x00\x00\x00\x00\x00\x00\x00" + "\x00\x00"},
		{api.Frame{From: 3, To: 2, Body: true, Seq: 1 << 32}, "RR\x01\x03\x02" + "\x00\x00\x00\x00\x01\x00\x00\x00" + "\x00\x00\x00\x00\x00\x00\x00\x00" + "\x00\x00"},
		{
			api.Frame{From: 10, To: 11, Body: true, Seq: 0x0807060504030201, Ack: 0x1817161514131211, Data: []byte("RR")},
			"RR\x01\x0a\x0b" + "\x01\x02\x03\x04\x05\x06\x07\x08" + "\x11\x12\x13\x14\x15\x16\x17\x18" + "\x02\x00" + "RR",
		},
		{api.Frame{From: 4, To: 5, Body: true, Seq: 6, Ack: 7, Data: []byte{0}}, "RR\x01\x04\x05" + "\x06\x00\x00\x00\x00\x00\x00\x00" + "\x07\x00\x00\x00\x00\x00\x00\x00" + "\x01\x00" + "\x00"},
		{
			api.Frame{From: 4, To: 5, Body: true, Seq: 6, Ack: 7, Data: filled(255)},
			"RR\x01\x04\x05" + "\x06\x00\x00\x00\x00\x00\x00\x00" + "\x07\x00\x00\x00\x00\x00\x00\x00" + "\xff\x00" + string(filled(255)),
		},
		{
			api.Frame{From: 4, To: 5, Body: true, Seq: 6, Ack: 7, Data: filled(256)},
			"RR\x01\x04\x05" + "\x06\x00\x00\x00\x00\x00\x00\x00" + "\x07\x00\x00\x00\x00\x00\x00\x00" + "\x00\x01" + string(filled(256)),
		},
		{
			api.Frame{From: 4, To: 5, Body: true, Seq: 6, Ack: 7, Data: filled(mostData)},
			"RR\x01\x04\x05" + "\x06\x00\x00\x00\x00\x00\x00\x00" + "\x07\x00\x00\x00\x00\x00\x00\x00" + "\x18\x10" + string(filled(mostData)),
		},
	} {
		want := sealed([]byte(x.b))
		if b, e := wire.Put(x.f); e != api.OK || !bytes.Equal(b, want) {
			t.Errorf("Put(%s): %x %v, not %x", short(x.f), begin(b), e, begin(want))
		}
		isFrame(t, want, x.f)
	}
}

// P16.1: the example with its sum written out.
func TestExample(t *testing.T) {
	want := "\x52\x52\x00\x01\x02\x00\x00\x00\x00\x00\x00\x00\x00\x03\x00\x00\x00\x00\x00\x00\x00\x00\x00\x63\x4e\x83\x2c"
	if b, e := wire.Put(api.Frame{From: 1, To: 2, Ack: 3}); e != api.OK || string(b) != want {
		t.Errorf("%x %v", b, e)
	}
}

// P16.1: Put of all right frames, and each of them with one part that is wrong.
func TestPut(t *testing.T) {
	for _, f := range someRight() {
		isRight(t, f)
		for _, bad := range []func(f *api.Frame){
			func(f *api.Frame) { f.From = -1 },
			func(f *api.Frame) { f.From += 16 },
			func(f *api.Frame) { f.From += 256 },
			func(f *api.Frame) { f.From = f.To },
			func(f *api.Frame) { f.To = -1 },
			func(f *api.Frame) { f.To += 16 },
			func(f *api.Frame) { f.To += 256 },
			func(f *api.Frame) { f.To = f.From },
			func(f *api.Frame) { f.Body = !f.Body },
			func(f *api.Frame) { f.Data = filled(mostData + 1) },
			func(f *api.Frame) { f.Data = filled(65536) },
		} {
			g := f
			bad(&g)
			isWrong(t, g)
		}
	}
}

// P16.1: nothing that is handed in is changed or kept, and no answer shares memory with it or with another one.
func TestPutKeeps(t *testing.T) {
	for _, d := range append(datas(), noDatas()...) {
		for _, body := range []bool{false, true} {
			data := row(d)
			was := slices.Clone(whole(data))
			f := api.Frame{From: 5, To: 6, Body: body, Ack: 8, Data: data}
			if body {
				f.Seq = 7
			}
			var want []byte
			if right(f) {
				want = encoded(f)
			}
			a, _ := wire.Put(f)
			b, _ := wire.Put(f)
			wire.Right(f)
			if !wire.Same(f, f) || !bytes.Equal(whole(data), was) {
				t.Errorf("%s: its bytes were changed", short(f))
			}
			spoil(a)
			if !bytes.Equal(b, want) || !bytes.Equal(whole(data), was) {
				t.Errorf("Put(%s): answers share memory", short(f))
			}
			spoil(data)
			if !bytes.Equal(b, want) {
				t.Errorf("Put(%s): what was handed in was kept", short(f))
			}
		}
	}
}

// P16.1: the bytes of each right frame are its, whatever stands in the room behind them, and what Put tells is.
func TestGet(t *testing.T) {
	for _, f := range someRight() {
		isFrame(t, encoded(f), f)
		isFrame(t, row(encoded(f)), f)
		b, _ := wire.Put(f)
		isFrame(t, b, f)
	}
}

// P16.1: no bytes, nil, rows of one byte alone, and sealed ones of fewer bytes than the numbers take, are no frame's.
func TestGetNothing(t *testing.T) {
	isNone(t, nil, "nil")
	isNone(t, []byte{}, "none")
	isNone(t, encoded(api.Frame{From: 1, To: 2})[:0], "none, with room behind")
	isNone(t, sealed(nil), "none, sealed")
	for v := range 256 {
		for n := 1; n < 40; n++ {
			isNone(t, bytes.Repeat([]byte{byte(v)}, n), "a row")
			isNone(t, sealed(bytes.Repeat([]byte{byte(v)}, n)), "a row, sealed")
		}
	}
	for _, f := range few() {
		for n := range content(f) {
			isNone(t, sealed(content(f)[:n]), "a beginning, sealed")
			isNone(t, row(sealed(content(f)[:n])), "a beginning, sealed, with room behind")
		}
	}
}

// P16.1: each byte of the numbers at each value, with the sum made anew: the frame is another one, or there is none.
func TestGetEachByte(t *testing.T) {
	for _, f := range someRight() {
		if len(f.Data) > 300 {
			continue
		}
		for i := range headSize {
			for v := range 256 {
				b := content(f)
				b[i] = byte(v)
				isGot(t, sealed(b), "one byte is another one")
			}
		}
	}
}

// P16.1: each two bytes of the beginning, the Body byte and the nodes, with the sum made anew.
func TestGetBeginning(t *testing.T) {
	for _, f := range []api.Frame{{From: 1, To: 2, Ack: 3}, {From: 2, To: 1, Body: true, Seq: 3, Data: []byte("RR")}} {
		for v := range 65536 {
			b := content(f)
			binary.LittleEndian.PutUint16(b, uint16(v))
			if _, ok := wire.Get(sealed(b)); ok != (v == 0x5252) {
				t.Fatalf("bytes that begin with %x: %v", b[:2], ok)
			}
			b = content(f)
			binary.LittleEndian.PutUint16(b[fromPlace:], uint16(v))
			from, to := v%256, v/256
			if g, ok := wire.Get(sealed(b)); ok != (from < 16 && to < 16 && from != to) || ok && (g.From != from || g.To != to) {
				t.Fatalf("bytes from %d to %d: %s %v", from, to, short(g), ok)
			}
		}
		for v := range 256 {
			b := content(f)
			b[bodyPlace] = byte(v)
			if _, ok := wire.Get(sealed(b)); ok != (v == 1 && f.Body || v == 0 && !f.Body) {
				t.Errorf("%s with %d for Body: %v", short(f), v, ok)
			}
		}
	}
}

// Numbers of eight bytes.
const (
	noughts = "\x00\x00\x00\x00\x00\x00\x00\x00"
	one     = "\x01\x00\x00\x00\x00\x00\x00\x00"
)

// wrong are bytes that no frame has, though with their sum behind they are sealed, written out.
var wrong = []string{
	"QR\x00\x01\x02" + noughts + noughts + "\x00\x00", // another beginning
	"RQ\x00\x01\x02" + noughts + noughts + "\x00\x00",
	"\x00\x00\x00\x01\x02" + noughts + noughts + "\x00\x00",
	"rr\x00\x01\x02" + noughts + noughts + "\x00\x00",
	"RR\x02\x01\x02" + noughts + noughts + "\x00\x00", // neither with Body nor without
	"RR\xff\x01\x02" + noughts + noughts + "\x00\x00",
	"RR\x80\x01\x02" + noughts + noughts + "\x00\x00",
	"RR\x02\x01\x02" + one + noughts + "\x00\x00",
	"RR\x03\x01\x02" + one + noughts + "\x00\x00",
	"RR\x81\x01\x02" + one + noughts + "\x01\x00\x09",
	"RR\x00\x10\x02" + noughts + noughts + "\x00\x00", // no nodes
	"RR\x00\x01\x10" + noughts + noughts + "\x00\x00",
	"RR\x00\xff\x02" + noughts + noughts + "\x00\x00",
	"RR\x00\x01\xff" + noughts + noughts + "\x00\x00",
	"RR\x01\x11\x02" + one + noughts + "\x00\x00",
	"RR\x01\x01\x80" + one + noughts + "\x00\x00",
	"RR\x00\x00\x00" + noughts + noughts + "\x00\x00", // alike ones
	"RR\x00\x02\x02" + noughts + noughts + "\x00\x00",
	"RR\x01\x0f\x0f" + one + noughts + "\x00\x00",
	"RR\x01\x01\x02" + noughts + noughts + "\x00\x00", // no Seq with Body
	"RR\x01\x01\x02" + noughts + one + "\x00\x00",
	"RR\x01\x01\x02" + noughts + noughts + "\x01\x00\x09",
	"RR\x00\x01\x02" + one + noughts + "\x00\x00", // a Seq without
	"RR\x00\x01\x02" + "\x00\x00\x00\x00\x00\x00\x00\x80" + noughts + "\x00\x00",
	"RR\x00\x01\x02" + "\x00\x00\x00\x00\x01\x00\x00\x00" + noughts + "\x00\x00",
	"RR\x00\x01\x02" + noughts + noughts + "\x01\x00\x09", // Data without
	"RR\x00\x01\x02" + noughts + noughts + "\x01\x00\x00",
	"RR\x01\x01\x02" + one + noughts + "\x01\x00", // less than is told
	"RR\x01\x01\x02" + one + noughts + "\x03\x00\x09\x09",
	"RR\x01\x01\x02" + one + noughts + "\x00\x01\x09",
	"RR\x00\x01\x02" + noughts + noughts + "\x01\x00",
	"RR\x01\x01\x02" + one + noughts + "\x00\x00\x09", // more than is told
	"RR\x01\x01\x02" + one + noughts + "\x01\x00\x09\x00",
	"RR\x00\x01\x02" + noughts + noughts + "\x00\x00\x00",
	"RR\x00\x01\x02" + noughts + noughts + "\x00\x00\x00\x00\x00\x00",
	"RR\x00\x01\x02" + noughts + noughts + "\x00", // a byte of the length
	"RR\x00\x01\x02" + noughts + noughts,          // no length
	"RR\x00\x01\x02" + noughts,
	"RR\x00\x01\x02",
	"RR",
	"R",
}

// P16.1: bytes of which one part is none that a right frame has, the sum made anew.
func TestGetWrong(t *testing.T) {
	for _, b := range wrong {
		isNone(t, sealed([]byte(b)), "wrong")
		isNone(t, row(sealed([]byte(b))), "wrong, with room behind")
		isNone(t, []byte(b), "wrong, and without a sum")
	}
}

// P16.1: with Body no Seq of 0, without one no other, and any Ack.
func TestGetSeq(t *testing.T) {
	for _, s := range acks {
		for _, a := range acks {
			for _, d := range []string{"", "\x00", "data"} {
				for _, body := range []bool{false, true} {
					f := api.Frame{From: 14, To: 15, Body: body, Seq: s, Ack: a, Data: []byte(d)}
					if right(f) {
						isFrame(t, encoded(f), f)
					} else {
						isNone(t, encoded(f), "Seq or Data that may not be")
					}
				}
			}
		}
	}
}

// lengthened are a frame's bytes, but that another length is told; the sum fits.
func lengthened(f api.Frame, n int) []byte {
	b := content(f)
	binary.LittleEndian.PutUint16(b[lengthPlace:], uint16(n))
	return sealed(b)
}

// P16.1: a length that says more or less than there is, whatever may stand in the room behind; the sum made anew.
func TestGetLength(t *testing.T) {
	for n := range 6 {
		for _, body := range []bool{false, true} {
			f := api.Frame{From: 1, To: 2, Body: body, Data: filled(n)}
			if body {
				f.Seq = 9
			}
			for said := range 65536 {
				g, ok := wire.Get(row(lengthened(f, said)))
				if want := said == n && right(f); ok != want || !ok && !alike(g, api.Frame{}) {
					t.Fatalf("%s of which %d bytes are told: %s %v", short(f), said, short(g), ok)
				}
			}
		}
	}
	for _, n := range []int{255, 256, 257, mostData - 1, mostData, mostData + 1} {
		f := api.Frame{From: 1, To: 2, Body: true, Seq: 9, Data: filled(n)}
		for _, said := range []int{0, 1, n - sumSize, n - 2, n - 1, n, n + 1, n + 2, n + sumSize, n ^ 256, n % 256, mostData, mostData + 1, 65535} {
			if _, ok := wire.Get(row(lengthened(f, said))); ok != (said == n && n <= mostData) {
				t.Errorf("%s of which %d bytes are told: %v", short(f), said, ok)
			}
		}
	}
	for _, n := range []int{0, 1, 2, 255, 256, mostData - 1, mostData, mostData + 1} { // 65536 bytes more than are told
		isNone(t, lengthened(api.Frame{From: 1, To: 2, Body: true, Seq: 9, Data: filled(65536 + n)}, n), "more than the length can tell")
	}
}

// P16.1: Data that no right frame has: more than the most with Body, any without.
func TestGetDatas(t *testing.T) {
	for _, d := range noDatas() {
		isNone(t, encoded(api.Frame{From: 1, To: 2, Body: true, Seq: 1, Data: d}), "too many Data")
		isNone(t, encoded(api.Frame{From: 1, To: 2, Data: d}), "too many Data without Body")
	}
	for _, d := range datas() {
		f := api.Frame{From: 1, To: 2, Body: true, Seq: 1, Data: d}
		isFrame(t, encoded(f), f)
		f = api.Frame{From: 1, To: 2, Data: d}
		isGot(t, encoded(f), "Data without Body")
	}
}

// P16.1: Get changes nothing, and what it answers is a copy.
func TestGetKeeps(t *testing.T) {
	for _, f := range someRight() {
		b := row(encoded(f))
		was := slices.Clone(whole(b))
		x, _ := wire.Get(b)
		y, _ := wire.Get(b)
		if !bytes.Equal(whole(b), was) {
			t.Errorf("Get(%s) changed its bytes", short(f))
		}
		spoil(x.Data)
		if !alike(y, f) || !bytes.Equal(whole(b), was) {
			t.Errorf("Get(%s): answers share memory", short(f))
		}
		spoil(b)
		if !alike(y, f) {
			t.Errorf("Get(%s): what was handed in was kept", short(f))
		}
	}
}

// P16.2: a frame's bytes of which one bit is turned, each of them, are no frame's.
func TestTurned(t *testing.T) {
	l := few()
	for n := range 30 {
		l = append(l, api.Frame{From: n % 16, To: (n + 5) % 16, Body: true, Seq: uint64(n + 1), Ack: uint64(n), Data: filled(n)})
	}
	for _, a := range acks {
		l = append(l, api.Frame{From: 6, To: 10, Ack: a})
	}
	for _, f := range l {
		b, _ := wire.Put(f)
		for bit := range 8 * len(b) {
			b[bit/8] ^= 1 << (bit % 8)
			if g, ok := wire.Get(b); ok || !alike(g, api.Frame{}) {
				t.Fatalf("%s whose bit %d is turned: %s %v", short(f), bit, short(g), ok)
			}
			b[bit/8] ^= 1 << (bit % 8)
		}
		isFrame(t, b, f)
	}
}

// P16.2: a frame's bytes of which some at the end are missing, as many as one likes, are no frame's, also where
// those that are missing stand in the room behind.
func TestCut(t *testing.T) {
	for _, f := range someRight() {
		b, _ := wire.Put(f)
		step := max(1, len(b)/100)
		for n := 0; n < len(b); n += step {
			isNone(t, b[:n], "a prefix, with room behind")
			isNone(t, slices.Clone(b[:n]), "a prefix")
		}
		for n := range headSize + sumSize {
			isNone(t, b[:n], "a prefix of the numbers")
			isNone(t, b[n+1:], "without the first ones")
		}
		for n := range 10 {
			isNone(t, b[:len(b)-1-n], "without the last ones")
		}
	}
	for _, f := range few() {
		b, _ := wire.Put(f)
		for n := range b {
			isNone(t, b[:n], "a prefix")
		}
	}
}

// P16.2: bytes that are cut where what stands ahead of the cut is sealed all the same, as Seq, Ack or Data hold
// the sum of all ahead of it.
func TestCutSealed(t *testing.T) {
	cuts := 0
	for _, f := range few() {
		for at := seqPlace; at+sumSize <= headSize+len(f.Data); at += max(1, len(f.Data)/200) {
			b := content(f)
			binary.LittleEndian.PutUint32(b[at:], crc32.ChecksumIEEE(b[:at]))
			g, ok := decoded(sealed(b))
			if !ok {
				continue // the sum lies over a part that must be another one
			}
			x, e := wire.Put(g)
			if e != api.OK || !bytes.Equal(x[:at+sumSize], sealed(x[:at])) {
				t.Fatalf("Put(%s): %x %v", short(g), begin(x), e)
			}
			isFrame(t, x, g)
			isNone(t, x[:at+sumSize], "cut where it is sealed")
			isNone(t, slices.Clone(x[:at+sumSize]), "cut where it is sealed")
			cuts++
		}
	}
	if cuts < 500 {
		t.Errorf("%d cuts alone", cuts)
	}
}

// P16.2: a frame's bytes behind which more stand are no frame's: some bytes, their own again, or their sum.
func TestMoreBehind(t *testing.T) {
	for _, f := range someRight() {
		b, _ := wire.Put(f)
		for v := range 256 {
			isNone(t, append(slices.Clone(b), byte(v)), "one more")
		}
		for _, more := range []string{
			"\x00\x00", "\xff\xff", "\x00\x00\x00\x00", "\xff\xff\xff\xff", "\x05\x07\x09", strings.Repeat("\x00", 4096),
			string(filled(65536)), string(b), string(b[:headSize]), string(b[len(b)-sumSize:]), string(sealed(b)[len(b):]),
		} {
			isNone(t, append(slices.Clone(b), more...), "more behind")
			isNone(t, sealed(append(slices.Clone(b), more...)), "more behind, sealed once more")
		}
		isNone(t, append([]byte{0}, b...), "one ahead")
		isNone(t, append([]byte{0x52}, b...), "one ahead")
	}
}

// P16.2: bytes behind Data ahead of the sum, which is made anew, are more than the length tells.
func TestMoreBeforeSum(t *testing.T) {
	for _, f := range someRight() {
		for _, more := range [][]byte{{0}, {1}, {0, 0, 0, 0}, filled(23), filled(255), filled(256), filled(65536)} {
			isNone(t, sealed(append(content(f), more...)), "more ahead of the sum")
		}
	}
}

// isSame holds Same of two frames, both ways round.
func isSame(t *testing.T, a, b api.Frame, want bool) {
	t.Helper()
	if wire.Same(a, b) != want || wire.Same(b, a) != want {
		t.Errorf("Same(%s, %s) isn't %v", short(a), short(b), want)
	}
}

// someFrames are right ones and wrong ones.
func someFrames() []api.Frame {
	l := append(someRight(),
		api.Frame{}, api.Frame{Body: true}, api.Frame{Seq: 5}, api.Frame{Data: []byte{0}}, api.Frame{From: 3, To: 3, Seq: 1, Ack: 2, Data: []byte{4, 0}})
	for _, n := range noNodes {
		l = append(l, api.Frame{From: n}, api.Frame{To: n}, api.Frame{From: n, To: n, Body: true, Seq: 1, Ack: 2, Data: []byte{3}})
	}
	for _, d := range noDatas() {
		l = append(l, api.Frame{From: 1, To: 2, Body: true, Seq: 1, Data: d}, api.Frame{From: 1, To: 2, Data: d})
	}
	return l
}

// P16.1: frames are the same as one that is alike, right or not, wherever their Data lie.
func TestSame(t *testing.T) {
	for _, f := range someFrames() {
		isSame(t, f, f, true)
		g := f
		g.Data = row(f.Data)
		isSame(t, f, g, true)
		g.Data = slices.Clone(f.Data)
		isSame(t, f, g, true)
		if len(f.Data) == 0 {
			g.Data = nil
			isSame(t, f, g, true)
			g.Data = []byte{}
			isSame(t, f, g, true)
			g.Data = filled(4)[:0]
			isSame(t, f, g, true)
		}
	}
}

// P16.1: frames that differ in one part alone are not the same: by one bit, a byte more or less, or another byte.
func TestSameOnePart(t *testing.T) {
	for _, f := range someFrames() {
		g := f
		g.Body = !f.Body
		isSame(t, f, g, false)
		for i := range 64 {
			g = f
			g.From ^= 1 << i
			isSame(t, f, g, false)
			g = f
			g.To ^= 1 << i
			isSame(t, f, g, false)
			g = f
			g.Seq ^= 1 << i
			isSame(t, f, g, false)
			g = f
			g.Ack ^= 1 << i
			isSame(t, f, g, false)
		}
		for _, more := range []string{"\x00", "\x01", "\xff\x00"} {
			g = f
			g.Data = append(slices.Clone(f.Data), more...)
			isSame(t, f, g, false)
		}
		for i := range 3 {
			if len(f.Data) == 0 {
				break
			}
			g = f
			g.Data = slices.Clone(f.Data)
			g.Data[i*(len(g.Data)-1)/2] ^= 1
			isSame(t, f, g, false)
		}
	}
}

// P16.1: frames that have their numbers in other parts are not the same.
func TestSameParts(t *testing.T) {
	l := []api.Frame{
		{}, {From: 1}, {To: 1}, {Body: true}, {Seq: 1}, {Ack: 1}, {Data: []byte{1}}, {Data: []byte{0}}, {Data: []byte{0, 0}},
		{From: 1, To: 2}, {From: 2, To: 1}, {Seq: 1, Ack: 2}, {Seq: 2, Ack: 1}, {To: 1, Seq: 2}, {To: 2, Seq: 1}, {Body: true, Seq: 1}, {Body: true, Ack: 1},
		{From: -1}, {To: -1}, {From: 255}, {To: 255}, {Seq: greatest}, {Ack: greatest}, {Data: []byte{0, 1}}, {Data: []byte{1, 0}},
	}
	for i, a := range l {
		for j, b := range l {
			isSame(t, a, b, i == j)
		}
	}
}

// chance makes numbers that are alike in each run.
type chance uint64

// next number below n.
func (c *chance) next(n int) int {
	*c = *c*6364136223846793005 + 1442695040888963407
	return int(uint64(*c)>>33) % n
}

// word of 64 bits that isn't 0: any, a small one, or one of those at the ends.
func (c *chance) word() uint64 {
	switch c.next(3) {
	case 0:
		return words[c.next(len(words))]
	case 1:
		return uint64(c.next(1000) + 1)
	}
	return uint64(c.next(1<<31))<<33 ^ uint64(c.next(1<<31))<<8 | 1
}

// data of a frame: none, few bytes, or up to a few more than the most.
func (c *chance) data() []byte {
	n := []int{0, 1, c.next(20), c.next(300), c.next(mostData + 1), mostData - 1 + c.next(3)}[c.next(6)]
	b := make([]byte, n)
	for i := range b {
		b[i] = byte(c.next(256))
	}
	return row(b)
}

// right frame.
func (c *chance) right() api.Frame {
	from := c.next(mostNodes)
	f := api.Frame{From: from, To: (from + 1 + c.next(mostNodes-1)) % mostNodes, Ack: c.word() * uint64(c.next(2))}
	if c.next(3) > 0 {
		d := c.data()
		f.Body, f.Seq, f.Data = true, c.word(), d[:min(len(d), mostData)]
	}
	return f
}

// hurt frame: one part is another one, which may be right still.
func (c *chance) hurt(f api.Frame) api.Frame {
	switch c.next(7) {
	case 0:
		f.From = noNodes[c.next(len(noNodes))]
	case 1:
		f.To = noNodes[c.next(len(noNodes))]
	case 2:
		f.To = c.next(mostNodes)
	case 3:
		f.Body = !f.Body
	case 4:
		f.Seq = uint64(c.next(2))
	case 5:
		f.Ack = c.word()
	case 6:
		f.Data = c.data()
	}
	return f
}

// hurtBytes are bytes that one more stands in, that end early, or of which one is another one.
func (c *chance) hurtBytes(b []byte) []byte {
	b = slices.Clone(b)
	switch c.next(4) {
	case 0:
		return slices.Insert(b, c.next(len(b)+1), byte(c.next(256)))
	case 1:
		return b[:c.next(len(b)+1)]
	case 2:
		b[c.next(headSize)] = byte(c.next(256))
	case 3:
		b[c.next(len(b))] ^= 1 << c.next(8)
	}
	return b
}

// P16.1, P16.2: a long mixed run: of right frames with Body and without Get of Put is the frame; of others, of
// bytes that were hurt on their way, and of such as were hurt ahead of their sum, all is as the model says.
func TestMany(t *testing.T) {
	c := chance(16)
	last := api.Frame{}
	for i := range 30000 {
		f := c.right()
		isRight(t, f)
		b, _ := wire.Put(f)
		isFrame(t, b, f)
		g, _ := wire.Get(b)
		isSame(t, g, f, true)
		isSame(t, f, last, alike(f, last))
		x := c.hurt(f)
		is(t, x)
		isSame(t, f, x, alike(f, x))
		isGot(t, c.hurtBytes(b), "hurt")
		isGot(t, sealed(c.hurtBytes(content(f))), "hurt ahead of the sum")
		if t.Failed() {
			t.Fatalf("step %d", i)
		}
		last = f
	}
}
