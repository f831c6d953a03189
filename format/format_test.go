package format_test

import (
	"bytes"
	"crypto/sha256"
	"encoding/binary"
	"fmt"
	"math"
	"math/rand/v2"
	"slices"
	"sync"
	"testing"

	"graft/api"
	"graft/delta"
	"graft/format"
)

const top = api.MaxLen

// head is the offset of the first command.
const head = 89

func lit(to int, text string) api.Command {
	return api.Command{Kind: api.Literal, To: to, Data: []byte(text)}
}

func cp(to, from, n int) api.Command {
	return api.Command{Kind: api.Copy, To: to, From: from, Len: n}
}

// of returns a delta with digests of which no two bytes are equal.
func of(oldLen, newLen int, l ...api.Command) api.Delta {
	d := api.Delta{OldLen: oldLen, NewLen: newLen, Commands: l}
	for i := range d.OldHash {
		d.OldHash[i], d.NewHash[i] = byte(2*i+100), byte(2*i+101)
	}
	return d
}

func fault(code api.Errno, at int) api.Fault { return api.Fault{Code: code, At: at} }

// lengths are numbers at which a length needs a further byte, and the least and greatest ones.
func lengths() []int {
	list := []int{0, 1, 2, 127, 128, 0x0102030405060708, 0x3fefdfcfbfaf9f8f, top - 1, top}
	for i := 8; i < 62; i += 8 {
		list = append(list, 1<<i-1, 1<<i, 1<<i+1)
	}
	return list
}

// others are numbers that are not lengths.
func others() []int {
	return []int{math.MinInt, math.MinInt + 1, -top - 1, -top, -1 << 32, -256, -2, -1, top + 1, top + 2, math.MaxInt - 1, math.MaxInt}
}

// badKinds are kinds that no command has, among them such as have the last byte of one that has.
func badKinds() []int {
	return []int{math.MinInt, math.MinInt + 1, math.MinInt + 2, -257, -256, -255, -254, -2, -1, 0, 3, 4, 127, 128, 255, 256, 257, 258, 1<<32 + 1, 1<<56 + 2, 1<<62 + 1, math.MaxInt - 1, math.MaxInt}
}

// number returns the last n bytes of a number, the most significant one first.
func number(x uint64, n int) []byte {
	var b [8]byte
	binary.BigEndian.PutUint64(b[:], x)
	return b[8-n:]
}

// wantEncoding is the encoding of a delta that can be encoded.
func wantEncoding(d api.Delta) []byte {
	b := append([]byte("GRFT"), 1)
	b = append(b, number(uint64(d.OldLen), 8)...)
	b = append(b, number(uint64(d.NewLen), 8)...)
	b = append(b, d.OldHash[:]...)
	b = append(b, d.NewHash[:]...)
	b = append(b, number(uint64(len(d.Commands)), 4)...)
	for _, c := range d.Commands {
		b = append(b, number(uint64(c.Kind), 1)...)
		b = append(b, number(uint64(c.To), 8)...)
		if c.Kind == api.Copy {
			b = append(b, number(uint64(c.From), 8)...)
			b = append(b, number(uint64(c.Len), 8)...)
		} else {
			b = append(b, number(uint64(len(c.Data)), 8)...)
			b = append(b, c.Data...)
		}
	}
	return b
}

// wantDecode is what the chapter says that Decode returns: it reads b from the beginning up to the first fault.
func wantDecode(b []byte) (api.Delta, api.Fault) {
	var d api.Delta
	var f api.Fault
	at := 0
	take := func(n int) []byte {
		if f == (api.Fault{}) && n > len(b)-at {
			f = fault(api.ErrShort, len(b))
		}
		if f != (api.Fault{}) {
			return make([]byte, 8)
		}
		at += n
		return b[at-n : at]
	}
	uint64At := func() int {
		x := binary.BigEndian.Uint64(take(8))
		if f == (api.Fault{}) && x > top {
			f = fault(api.ErrRange, at-8)
		}
		if f != (api.Fault{}) {
			return 0
		}
		return int(x)
	}
	for i := range 4 {
		if i < len(b) && b[i] != "GRFT"[i] {
			return api.Delta{}, fault(api.ErrMagic, 0)
		}
	}
	take(4)
	if x := take(1)[0]; f == (api.Fault{}) && x != 1 {
		return api.Delta{}, fault(api.ErrVersion, 4)
	}
	d.OldLen, d.NewLen = uint64At(), uint64At()
	copy(d.OldHash[:], take(32))
	copy(d.NewHash[:], take(32))
	n := binary.BigEndian.Uint32(take(4))
	for i := uint32(0); i < n && f == (api.Fault{}); i++ {
		kind := take(1)[0]
		if f == (api.Fault{}) && kind != 1 && kind != 2 {
			f = fault(api.ErrKind, at-1)
		}
		c := api.Command{Kind: int(kind), To: uint64At(), From: uint64At()}
		if kind == 1 {
			c.Len = uint64At()
		} else {
			c.Data, c.From = slices.Clone(take(c.From)), 0
		}
		d.Commands = append(d.Commands, c)
	}
	if f == (api.Fault{}) && at < len(b) {
		f = fault(api.ErrExtra, at)
	}
	if f != (api.Fault{}) {
		return api.Delta{}, f
	}
	return d, f
}

// copyOf returns a delta that shares no memory with d.
func copyOf(d api.Delta) api.Delta {
	d.Commands = slices.Clone(d.Commands)
	for i := range d.Commands {
		d.Commands[i].Data = slices.Clone(d.Commands[i].Data)
	}
	return d
}

// checkEncodes checks that a delta is encoded and decoded.
func checkEncodes(t *testing.T, d api.Delta) {
	t.Helper()
	before, want := copyOf(d), wantEncoding(d)
	b, code := format.Encode(d)
	if !bytes.Equal(b, want) || code != api.OK {
		t.Fatalf("Encode(%+v) = %x, %v, want %x", d, b, code, want)
	}
	if n := format.Size(d); n != len(want) {
		t.Fatalf("Size(%+v) = %d, want %d", d, n, len(want))
	}
	if !delta.Same(d, before) {
		t.Fatalf("Encode or Size changed %+v to %+v", before, d)
	}
	checkDecodes(t, b, d, api.Fault{})
}

// checkRejects checks that a delta cannot be encoded.
func checkRejects(t *testing.T, d api.Delta, want api.Errno) {
	t.Helper()
	if b, code := format.Encode(d); len(b) != 0 || code != want {
		t.Fatalf("Encode(%+v) = %x, %v, want %v", d, b, code, want)
	}
	if n := format.Size(d); n != 0 {
		t.Fatalf("Size(%+v) = %d, want 0", d, n)
	}
}

// checkDecodes checks Decode.
func checkDecodes(t *testing.T, b []byte, want api.Delta, wantFault api.Fault) {
	t.Helper()
	before := slices.Clone(b)
	got, f := format.Decode(b)
	if !delta.Same(got, want) || f != wantFault {
		t.Fatalf("Decode(%x) = %+v, %v, want %+v, %v", before, got, f, want, wantFault)
	}
	if !bytes.Equal(b, before) {
		t.Fatalf("Decode changed %x to %x", before, b)
	}
}

// checkFault checks a fault of Decode.
func checkFault(t *testing.T, b []byte, code api.Errno, at int) {
	t.Helper()
	checkDecodes(t, b, api.Delta{}, fault(code, at))
}

// checkBytes checks Decode and Load of any bytes.
func checkBytes(t *testing.T, b []byte) {
	t.Helper()
	d, f := wantDecode(b)
	checkDecodes(t, b, d, f)
	checkLoad(t, b)
	if f != (api.Fault{}) {
		return
	}
	if again, code := format.Encode(d); !bytes.Equal(again, b) || code != api.OK {
		t.Fatalf("%x is accepted, but the encoding of its delta is %x, %v", b, again, code)
	}
}

// checkLoad checks that Load is Decode with a check of the delta.
func checkLoad(t *testing.T, b []byte) {
	t.Helper()
	want, f := wantDecode(b)
	if f == (api.Fault{}) {
		f = delta.Check(want)
	}
	if f != (api.Fault{}) {
		want = api.Delta{}
	}
	if got, gotFault := format.Load(b); !delta.Same(got, want) || gotFault != f {
		t.Fatalf("Load(%x) = %+v, %v, want %+v, %v", b, got, gotFault, want, f)
	}
}

// samples are deltas that can be encoded; few of them are valid.
func samples() []api.Delta {
	return []api.Delta{
		{},
		of(0, 0),
		of(10, 7, cp(2, 4, 5), lit(0, "ab")),
		of(3, 4, lit(0, "GRFT")),
		of(9, 9, cp(4, 0, 5), cp(0, 5, 4)),
		of(top, top, cp(0, 0, top)),
		of(1, 2, cp(0, 0, 0), lit(0, ""), cp(top, top, top), lit(top, "x")),
		of(5, 5, lit(5, ""), lit(6, "")),
		of(5, 5, cp(1, 2, 3), cp(1, 2, 3), lit(1, "abc"), lit(1, "abc"), cp(1, 2, 3)),
		of(1, 1, api.Command{Kind: api.Copy, Len: 1, Data: []byte{}}),
		of(300, 300, lit(0, string(bytes.Repeat([]byte{0, 1, 2, 255}, 75)))),
	}
}

// P7.1

func TestEncodeKnown(t *testing.T) {
	d := api.Delta{OldLen: 0x0102030405060708, NewLen: 0x1112131415161718}
	for i := range 32 {
		d.OldHash[i], d.NewHash[i] = byte(0x20+i), byte(0x40+i)
	}
	d.Commands = []api.Command{cp(0x2122232425262728, 0x3132333435363738, 0x0a0b0c0d0e0f1011), lit(0x1a1b1c1d1e1f2021, "xyz")}
	want := "GRFT\x01" +
		"\x01\x02\x03\x04\x05\x06\x07\x08" +
		"\x11\x12\x13\x14\x15\x16\x17\x18" +
		" !\"#$%&'()*+,-./0123456789:;<=>?" +
		"@ABCDEFGHIJKLMNOPQRSTUVWXYZ[\\]^_" +
		"\x00\x00\x00\x02" +
		"\x01\x21\x22\x23\x24\x25\x26\x27\x28\x31\x32\x33\x34\x35\x36\x37\x38\x0a\x0b\x0c\x0d\x0e\x0f\x10\x11" +
		"\x02\x1a\x1b\x1c\x1d\x1e\x1f\x20\x21\x00\x00\x00\x00\x00\x00\x00\x03xyz"
	if b, code := format.Encode(d); string(b) != want || code != api.OK {
		t.Errorf("Encode = %q, %v, want %q", b, code, want)
	}
	if n := format.Size(d); n != 89+25+20 || n != len(want) {
		t.Errorf("Size = %d", n)
	}
	checkDecodes(t, []byte(want), d, api.Fault{})
}

func TestEncodeZeroDelta(t *testing.T) {
	want := append([]byte("GRFT\x01"), make([]byte, 84)...)
	if b, code := format.Encode(api.Delta{}); !bytes.Equal(b, want) || code != api.OK {
		t.Errorf("Encode = %x, %v", b, code)
	}
	if n := format.Size(api.Delta{}); n != 89 {
		t.Errorf("Size = %d, want 89", n)
	}
	checkDecodes(t, want, api.Delta{}, api.Fault{})
	if d, f := format.Load(want); !delta.Same(d, api.Delta{}) || f != (api.Fault{}) {
		t.Errorf("Load = %+v, %v", d, f)
	}
}

func TestEncodeSamples(t *testing.T) {
	for _, d := range samples() {
		checkEncodes(t, d)
	}
}

// withNumber returns deltas with two commands of which one number is n, each number in turn.
func withNumber(n int) []api.Delta {
	return []api.Delta{
		of(n, 2, cp(3, 4, 5), lit(6, "a")),
		of(1, n, cp(3, 4, 5), lit(6, "a")),
		of(1, 2, cp(n, 4, 5), lit(6, "a")),
		of(1, 2, cp(3, n, 5), lit(6, "a")),
		of(1, 2, cp(3, 4, n), lit(6, "a")),
		of(1, 2, cp(3, 4, 5), lit(n, "a")),
		of(1, 2, cp(3, 4, 5), lit(n, "")),
		of(1, 2, lit(n, "a"), cp(3, 4, 5)),
		of(1, 2, lit(6, "a"), cp(n, 4, 5)),
		of(1, 2, lit(6, "a"), cp(3, n, 5)),
		of(1, 2, lit(6, "a"), cp(3, 4, n)),
		of(n, n),
		of(1, 2, cp(n, n, n)),
	}
}

func TestEncodeLengths(t *testing.T) {
	for _, n := range lengths() {
		for _, d := range withNumber(n) {
			checkEncodes(t, d)
		}
	}
}

func TestEncodeOutsideRange(t *testing.T) {
	for _, n := range others() {
		for _, d := range withNumber(n) {
			checkRejects(t, d, api.ErrRange)
		}
	}
}

func TestEncodeFieldsOfTheOtherKind(t *testing.T) {
	for _, c := range []api.Command{
		{Kind: api.Copy, Data: []byte{0}},
		{Kind: api.Copy, To: 1, From: 2, Len: 3, Data: []byte("abc")},
		{Kind: api.Copy, Len: 3, Data: []byte("abc")},
		{Kind: api.Literal, From: 1},
		{Kind: api.Literal, From: -1},
		{Kind: api.Literal, Len: 1},
		{Kind: api.Literal, Len: -1},
		{Kind: api.Literal, Data: []byte("a"), Len: 1},
		{Kind: api.Literal, Data: []byte("ab"), From: top},
		{Kind: api.Literal, Data: []byte("ab"), From: math.MinInt, Len: math.MaxInt},
		{Kind: api.Literal, From: 1, Len: -1},
	} {
		checkRejects(t, of(1, 2, c), api.ErrRange)
		checkRejects(t, of(1, 2, lit(0, "a"), cp(0, 0, 1), c), api.ErrRange)
		checkRejects(t, of(1, 2, c, lit(0, "a"), cp(0, 0, 1)), api.ErrRange)
	}
}

func TestEncodeUnknownKinds(t *testing.T) {
	for _, kind := range badKinds() {
		for _, c := range []api.Command{{Kind: kind}, {Kind: kind, To: 1, From: 2, Len: 3}, {Kind: kind, Data: []byte("a")}, {Kind: kind, To: -1}} {
			checkRejects(t, of(1, 2, c), api.ErrKind)
			checkRejects(t, of(1, 2, lit(0, "a"), cp(0, 0, 1), c), api.ErrKind)
			checkRejects(t, of(1, 2, c, lit(0, "a"), cp(0, 0, 1)), api.ErrKind)
		}
	}
}

// An unknown kind precedes each number outside its range, also one of an earlier command.
func TestEncodeKindBeforeRange(t *testing.T) {
	for _, n := range others() {
		for _, d := range withNumber(n) {
			checkRejects(t, of(d.OldLen, d.NewLen, append([]api.Command{{}}, d.Commands...)...), api.ErrKind)
			checkRejects(t, of(d.OldLen, d.NewLen, append(slices.Clone(d.Commands), api.Command{Kind: 3})...), api.ErrKind)
		}
	}
	checkRejects(t, of(1, 2, api.Command{Kind: api.Literal, Len: 1}, api.Command{Kind: 3}), api.ErrKind)
	checkRejects(t, of(1, 2, api.Command{Kind: api.Copy, Data: []byte("a")}, api.Command{Kind: -1}), api.ErrKind)
}

func TestEncodeManyCommands(t *testing.T) {
	for _, n := range []int{255, 256, 257, 65535, 65536, 70000} {
		var l []api.Command
		for i := range n {
			if i%3 == 0 {
				l = append(l, lit(i, fmt.Sprint(i)))
			} else {
				l = append(l, cp(i, 2*i, 3*i))
			}
		}
		checkEncodes(t, of(n, 2*n, l...))
	}
}

func TestEncodeLongData(t *testing.T) {
	for _, n := range []int{255, 256, 65535, 65536, 1<<20 + 7} {
		data := make([]byte, n)
		for i := range data {
			data[i] = byte(i % 251)
		}
		checkEncodes(t, of(1, n, cp(0, 1, 2), lit(0, string(data)), lit(0, string(data[:n/2]))))
	}
}

// Size needs no memory for the encoding, so it may be long.
func TestSizeOfRepeatedData(t *testing.T) {
	data := make([]byte, 1<<24)
	l := make([]api.Command, 1<<12)
	for i := range l {
		l[i] = api.Command{Kind: api.Literal, To: i, Data: data}
	}
	if n, want := format.Size(of(0, 0, l...)), 89+1<<12*(17+1<<24); n != want {
		t.Errorf("Size = %d, want %d", n, want)
	}
}

func TestEncodeSharesNoMemory(t *testing.T) {
	d := of(10, 7, cp(2, 4, 5), lit(0, "ab"))
	before := copyOf(d)
	b, _ := format.Encode(d)
	want := slices.Clone(b)
	other, _ := format.Encode(d)
	clear(other[:cap(other)])
	clear(d.Commands[1].Data)
	if !bytes.Equal(b, want) {
		t.Errorf("the encoding changed to %x", b)
	}
	d = copyOf(before)
	b, _ = format.Encode(d)
	clear(b[:cap(b)])
	if !delta.Same(d, before) {
		t.Errorf("the delta changed to %+v", d)
	}
}

// P7.2

func TestDecodeProperBeginnings(t *testing.T) {
	for _, d := range samples() {
		b := wantEncoding(d)
		for n := range b {
			checkFault(t, b[:n], api.ErrShort, n)
		}
	}
}

func TestDecodeExtraBytes(t *testing.T) {
	for _, d := range samples() {
		b := wantEncoding(d)
		for _, rest := range []string{"\x00", "\x01", "\x02", "\xff", "G", "GRFT", "\x02\x00\x00\x00\x00\x00\x00\x00\x00\x00\x00\x00\x00\x00\x00\x00\x00", string(b)} {
			checkFault(t, append(slices.Clone(b), rest...), api.ErrExtra, len(b))
		}
	}
}

func TestDecodeMagic(t *testing.T) {
	for _, b := range []string{"g", "R", "\x00", "GR\x00", "GRf", "GRFt", "FRFT", "GGFT", "GRGT", "GRFG", "\x00GRFT", "TFRG", "GRF\x01", "GRFU\x01", "gRFT\x02\xff\xff\xff"} {
		checkFault(t, []byte(b), api.ErrMagic, 0)
	}
	b := wantEncoding(of(10, 7, cp(2, 4, 5)))
	for i := range 4 {
		for x := range 256 {
			if c := slices.Clone(b); byte(x) != b[i] {
				c[i] = byte(x)
				checkFault(t, c, api.ErrMagic, 0)
				checkFault(t, c[:i+1], api.ErrMagic, 0)
			}
		}
	}
	checkFault(t, nil, api.ErrShort, 0)
	checkFault(t, []byte{}, api.ErrShort, 0)
	checkFault(t, []byte("GRF"), api.ErrShort, 3)
	checkFault(t, []byte("GRFT"), api.ErrShort, 4)
}

func TestDecodeVersion(t *testing.T) {
	b := wantEncoding(of(10, 7, cp(2, 4, 5)))
	for x := range 256 {
		if x == 1 {
			continue
		}
		c := slices.Clone(b)
		c[4] = byte(x)
		checkFault(t, c, api.ErrVersion, 4)
		checkFault(t, c[:5], api.ErrVersion, 4)
	}
}

// The number at an offset, and no other part, is at fault.
func TestDecodeNumbers(t *testing.T) {
	b := wantEncoding(of(10, 7, cp(2, 4, 5), lit(0, "ab"), lit(1, ""), cp(3, 0, 1)))
	for _, at := range []int{5, 13, 90, 98, 106, 115, 123, 134, 142, 151, 159, 167} {
		for _, x := range []uint64{top + 1, top + 2, 1<<62 + 1<<61, math.MaxInt64, 1 << 63, 1<<63 + 1, math.MaxUint64 - 1, math.MaxUint64} {
			c := slices.Clone(b)
			copy(c[at:], number(x, 8))
			checkFault(t, c, api.ErrRange, at)
			checkFault(t, c[:at+8], api.ErrRange, at)
			checkFault(t, c[:at+7], api.ErrShort, at+7)
			checkFault(t, append(c, 0), api.ErrRange, at)
		}
		for _, x := range []uint64{0, 1, 1 << 32, 1 << 61, top - 1, top} {
			c := slices.Clone(b)
			copy(c[at:], number(x, 8))
			checkBytes(t, c)
		}
	}
}

func TestDecodeLongData(t *testing.T) {
	for _, n := range []uint64{3, 4, 255, 1 << 16, 1 << 31, 1 << 32, 1 << 40, top - 1, top} {
		b := wantEncoding(of(0, 2, lit(0, "ab")))
		copy(b[98:], number(n, 8))
		checkFault(t, b, api.ErrShort, len(b))
		checkFault(t, b[:head+17], api.ErrShort, head+17)
	}
}

func TestDecodeKinds(t *testing.T) {
	b := wantEncoding(of(10, 7, cp(2, 4, 5), lit(0, "ab"), lit(1, ""), cp(3, 0, 1)))
	for _, at := range []int{89, 114, 133, 150} {
		for x := range 256 {
			c := slices.Clone(b)
			c[at] = byte(x)
			checkBytes(t, c)
			if x != api.Copy && x != api.Literal {
				checkFault(t, c, api.ErrKind, at)
				checkFault(t, c[:at+1], api.ErrKind, at)
			}
		}
	}
}

// The number of commands may be any number of 4 bytes; only those that are there take memory and time.
func TestDecodeNumberOfCommands(t *testing.T) {
	l := []api.Command{cp(2, 4, 5), lit(0, "ab")}
	b := wantEncoding(of(10, 7, l...))
	for _, n := range []uint64{3, 255, 256, 1 << 16, 1 << 24, 1 << 31, math.MaxUint32 - 1, math.MaxUint32} {
		copy(b[85:], number(n, 4))
		checkFault(t, b, api.ErrShort, len(b))
		checkFault(t, append(b, 7), api.ErrKind, len(b))
		checkFault(t, b[:head], api.ErrShort, head)
	}
	for n, end := range []int{head, head + 25} {
		copy(b[85:], number(uint64(n), 4))
		checkFault(t, b, api.ErrExtra, end)
		checkDecodes(t, b[:end], of(10, 7, l[:n]...), api.Fault{})
	}
}

// Of two faults the one that is met first counts.
func TestDecodeFirstFault(t *testing.T) {
	b := wantEncoding(of(10, 7, cp(2, 4, 5), lit(0, "ab"), cp(3, 0, 1)))
	type damage struct {
		at int
		b  []byte
	}
	large := number(math.MaxUint64, 8)
	list := []damage{{0, []byte("x")}, {4, []byte{9}}, {5, large}, {13, large}, {85, number(math.MaxUint32, 4)}, {85, number(1, 4)}, {89, []byte{0}}, {90, large}, {98, large}, {106, large}, {114, []byte{3}}, {115, large}, {123, large}, {123, number(3, 8)}, {123, number(1, 8)}, {133, []byte{255}}, {134, large}, {142, large}, {150, large}}
	for _, first := range list {
		for _, second := range list {
			c := slices.Clone(b)
			copy(c[first.at:], first.b)
			copy(c[second.at:], second.b)
			for n := range len(c) + 1 {
				checkBytes(t, c[:n])
			}
			checkBytes(t, append(c, 5))
		}
	}
}

func TestDecodeEachChangedByte(t *testing.T) {
	for _, d := range samples()[:9] {
		b := wantEncoding(d)
		for i := range b {
			for _, x := range []byte{0, 1, 2, 3, 0x3f, 0x40, 0x80, 0xff, b[i] + 1, b[i] - 1} {
				c := slices.Clone(b)
				c[i] = x
				checkBytes(t, c)
			}
		}
	}
}

func TestDecodeSharesNoMemory(t *testing.T) {
	want := of(10, 7, lit(0, "ab"), cp(2, 4, 5), lit(0, "cd"), lit(0, ""))
	for _, read := range []func([]byte) (api.Delta, api.Fault){format.Decode, format.Load} {
		valid := of(10, 4, lit(0, "ab"), lit(2, "cd"))
		for _, want := range []api.Delta{want, valid} {
			b := wantEncoding(want)
			d, f := read(b)
			if f != (api.Fault{}) {
				continue
			}
			other, _ := read(b)
			clear(b)
			if !delta.Same(d, want) {
				t.Errorf("the result changed with its bytes to %+v", d)
			}
			for i := range other.Commands {
				data := other.Commands[i].Data
				clear(data[:cap(data)])
			}
			clear(other.Commands)
			if !delta.Same(d, want) {
				t.Errorf("the result changed with another result to %+v", d)
			}
			for i := range d.Commands {
				before := copyOf(d)
				data := d.Commands[i].Data
				clear(data[:cap(data)])
				clear(before.Commands[i].Data)
				if !delta.Same(d, before) {
					t.Errorf("the data of command %d is also that of another", i)
				}
			}
		}
	}
}

// P7.3

func TestLoadKnown(t *testing.T) {
	for _, c := range []struct {
		d    api.Delta
		want api.Fault
	}{
		{of(0, 0), api.Fault{}},
		{of(10, 7, cp(2, 4, 5), lit(0, "ab")), api.Fault{}},
		{of(top, top, cp(0, 0, top)), api.Fault{}},
		{of(10, 8, cp(2, 4, 5), lit(0, "ab")), fault(api.ErrGap, 7)},
		{of(10, 7, cp(3, 4, 4), lit(0, "ab")), fault(api.ErrGap, 2)},
		{of(10, 6, cp(2, 4, 5), lit(0, "ab")), fault(api.ErrLength, 0)},
		{of(8, 7, cp(2, 4, 5), lit(0, "ab")), fault(api.ErrSource, 0)},
		{of(10, 7, cp(2, 4, 5), lit(1, "ab")), fault(api.ErrOverlap, 1)},
		{of(10, 7, cp(2, 4, 5), lit(0, "ab"), lit(7, "")), fault(api.ErrEmpty, 2)},
		{of(10, 7, lit(0, "ab"), cp(2, 4, 0)), fault(api.ErrEmpty, 1)},
		{of(top, top, cp(1, 0, top)), fault(api.ErrRange, 0)},
		{of(top, top, lit(0, "a"), cp(1, 2, top-1)), fault(api.ErrRange, 1)},
	} {
		b, code := format.Encode(c.d)
		if code != api.OK {
			t.Fatalf("Encode(%+v) = %v", c.d, code)
		}
		want := c.d
		if c.want != (api.Fault{}) {
			want = api.Delta{}
		}
		if d, f := format.Load(b); !delta.Same(d, want) || f != c.want {
			t.Errorf("Load of %+v = %+v, %v, want %v", c.d, d, f, c.want)
		}
		checkDecodes(t, b, c.d, api.Fault{})
	}
}

// A fault of the encoding precedes those of the delta.
func TestLoadEncodingFirst(t *testing.T) {
	b := wantEncoding(of(8, 7, cp(2, 4, 5), lit(0, "ab")))
	for n := range b {
		if d, f := format.Load(b[:n]); !delta.Same(d, api.Delta{}) || f != fault(api.ErrShort, n) {
			t.Errorf("Load of %d bytes = %+v, %v", n, d, f)
		}
	}
	if d, f := format.Load(append(b, 0)); !delta.Same(d, api.Delta{}) || f != fault(api.ErrExtra, len(b)) {
		t.Errorf("Load of a byte more = %+v, %v", d, f)
	}
	b[4] = 0
	if d, f := format.Load(b); !delta.Same(d, api.Delta{}) || f != fault(api.ErrVersion, 4) {
		t.Errorf("Load of another version = %+v, %v", d, f)
	}
}

// All lists of up to three of some small commands, most of which are not valid deltas.
func TestLoadSmallDeltas(t *testing.T) {
	small := []api.Command{cp(0, 0, 0), lit(0, ""), lit(0, "a"), lit(1, "b"), lit(1, "bc"), cp(0, 0, 1), cp(0, 2, 1), cp(1, 0, 2), cp(2, 1, 1), cp(2, top, top)}
	lists := [][]api.Command{nil}
	for i := 0; len(lists[i]) < 3; i++ {
		for _, c := range small {
			lists = append(lists, append(slices.Clone(lists[i]), c))
		}
	}
	valid := 0
	for _, l := range lists {
		for newLen := range 4 {
			d := of(2, newLen, l...)
			b, _ := format.Encode(d)
			checkLoad(t, b)
			if delta.Valid(d) {
				valid++
			}
		}
	}
	if valid < 20 {
		t.Errorf("only %d deltas are valid", valid)
	}
}

// P7.4

func wantID(b []byte) uint64 {
	digest := sha256.Sum256(b)
	return binary.BigEndian.Uint64(digest[:8])
}

func TestIDKnown(t *testing.T) {
	for _, c := range []struct {
		parts [][]byte
		want  uint64
	}{
		{nil, 0xe3b0c44298fc1c14},
		{[][]byte{nil}, 0xe3b0c44298fc1c14},
		{[][]byte{{}, nil, {}}, 0xe3b0c44298fc1c14},
		{[][]byte{[]byte("abc")}, 0xba7816bf8f01cfea},
		{[][]byte{[]byte("a"), []byte("bc")}, 0xba7816bf8f01cfea},
		{[][]byte{[]byte("a"), nil, []byte("b"), []byte("c")}, 0xba7816bf8f01cfea},
	} {
		if got := format.ID(c.parts...); got != c.want {
			t.Errorf("ID(%q) = %x, want %x", c.parts, got, c.want)
		}
	}
}

func TestIDOfParts(t *testing.T) {
	data := make([]byte, 200)
	for i := range data {
		data[i] = byte(i * 7)
	}
	for n := range len(data) + 1 {
		want := wantID(data[:n])
		if got := format.ID(data[:n]); got != want {
			t.Fatalf("ID of %d bytes = %x, want %x", n, got, want)
		}
		for k := 0; k <= n; k += 13 {
			if got := format.ID(data[:k], nil, data[k:n]); got != want {
				t.Fatalf("ID of %d and %d bytes = %x, want %x", k, n-k, got, want)
			}
		}
	}
	if got := format.ID(slices.Collect(slices.Chunk(data, 1))...); got != wantID(data) {
		t.Errorf("ID of single bytes = %x", got)
	}
}

// Identifiers with a high first bit and with zero bytes at either end are among these.
func TestIDOfEncodings(t *testing.T) {
	seen := map[uint64]bool{}
	for i := range 3000 {
		b, _ := format.Encode(of(i, 0))
		before := slices.Clone(b)
		id := format.ID(b)
		if id != wantID(b) || !bytes.Equal(b, before) {
			t.Fatalf("ID(%x) = %x", before, id)
		}
		seen[id] = true
	}
	if len(seen) != 3000 {
		t.Errorf("%d identifiers of 3000 deltas", len(seen))
	}
}

// P7.5

// randomDelta returns a delta that can be encoded, with up to 6 commands.
func randomDelta(r *rand.Rand) api.Delta {
	length := func() int { return r.IntN(top+1) >> r.IntN(62) }
	d := api.Delta{OldLen: length(), NewLen: length()}
	for i := range d.OldHash {
		d.OldHash[i], d.NewHash[i] = byte(r.Uint32()), byte(r.Uint32())
	}
	for range r.IntN(7) {
		if r.IntN(2) == 0 {
			d.Commands = append(d.Commands, cp(length(), length(), length()))
			continue
		}
		data := make([]byte, r.IntN(5)*r.IntN(8))
		for i := range data {
			data[i] = byte(r.Uint32())
		}
		d.Commands = append(d.Commands, lit(length(), string(data)))
	}
	return d
}

func TestRandomDeltas(t *testing.T) {
	r := rand.New(rand.NewPCG(7, 1))
	for range 20000 {
		d := randomDelta(r)
		checkEncodes(t, d)
		b := wantEncoding(d)
		n := r.IntN(len(b))
		checkFault(t, b[:n], api.ErrShort, n)
	}
}

// damaged returns an encoding with some changes: other bytes, missing ones, and ones too many.
func damaged(r *rand.Rand) []byte {
	b := wantEncoding(randomDelta(r))
	values := []byte{0, 1, 2, 3, 0x3f, 0x40, 0xff, byte(r.Uint32())}
	for range 1 + r.IntN(4) {
		switch r.IntN(4) {
		case 0:
			i := r.IntN(len(b) + 1)
			b = slices.Insert(b, i, values[r.IntN(len(values))])
		case 1:
			i := r.IntN(len(b))
			b = slices.Delete(b, i, min(len(b), i+1+r.IntN(3)))
		default:
			i := r.IntN(len(b))
			if r.IntN(2) == 0 {
				i = min(len(b)-1, 85+r.IntN(60))
			}
			b[i] = values[r.IntN(len(values))]
		}
	}
	return b
}

func TestDamagedEncodings(t *testing.T) {
	r := rand.New(rand.NewPCG(7, 2))
	codes := map[api.Errno]int{}
	for range 100000 {
		b := damaged(r)
		checkBytes(t, b)
		_, f := format.Decode(b)
		codes[f.Code]++
	}
	for _, code := range []api.Errno{api.OK, api.ErrShort, api.ErrMagic, api.ErrVersion, api.ErrRange, api.ErrKind, api.ErrExtra} {
		if codes[code] < 100 {
			t.Errorf("only %d of the byte strings lead to %v", codes[code], code)
		}
	}
}

func TestShortByteStrings(t *testing.T) {
	values := "GRFT\x00\x01\x02"
	lists := [][]byte{nil}
	for i := 0; len(lists[i]) < 6; i++ {
		for _, x := range []byte(values) {
			lists = append(lists, append(slices.Clone(lists[i]), x))
		}
	}
	for _, b := range lists {
		checkBytes(t, b)
	}
}

// Only the bytes within the length of a slice are read.
func TestDecodeWithinLength(t *testing.T) {
	b := wantEncoding(of(10, 7, cp(2, 4, 5), lit(0, "ab")))
	long := append(slices.Clone(b), "further bytes"...)
	checkDecodes(t, long[:len(b)], of(10, 7, cp(2, 4, 5), lit(0, "ab")), api.Fault{})
	checkFault(t, long[:head], api.ErrShort, head)
}

// Functions may be called concurrently.
func TestConcurrentCalls(t *testing.T) {
	var group sync.WaitGroup
	d := of(10, 7, cp(2, 4, 5), lit(0, "ab"))
	want := wantEncoding(d)
	for range 8 {
		group.Go(func() {
			for range 200 {
				b, code := format.Encode(d)
				if !bytes.Equal(b, want) || code != api.OK || format.Size(d) != len(want) {
					t.Errorf("Encode = %x, %v", b, code)
				}
				if got, f := format.Load(want); !delta.Same(got, d) || f != (api.Fault{}) {
					t.Errorf("Load = %+v, %v", got, f)
				}
				if id := format.ID(want); id != wantID(want) {
					t.Errorf("ID = %x", id)
				}
			}
		})
	}
	group.Wait()
}
