package wire_test

import (
	"bytes"
	"encoding/binary"
	"math"
	"math/big"
	"math/rand/v2"
	"slices"
	"sync"
	"testing"

	"graft/api"
	"graft/wire"
)

const top = api.MaxLen

// numbers are values at which a number needs a further byte or bit, and some others.
func numbers() []uint64 {
	list := []uint64{0, 258, 0x0102030405060708, 0xf0e0d0c0b0a09080, top - 1, top, top + 1, top + 2, math.MaxUint64 - 1, math.MaxUint64}
	for i := range 64 {
		list = append(list, 1<<i-1, 1<<i, 1<<i+1)
	}
	return list
}

// sizes are sizes of numbers and other integers, among them multiples of 8 that lose their highest bits.
func sizes() []int {
	list := []int{math.MinInt, math.MinInt + 1, math.MinInt + 8, -top, -1 << 61, -1 << 32, -256, -9, -8, -1}
	for n := range 20 {
		list = append(list, n)
	}
	return append(list, 64, 255, 256, 257, 264, 1<<32, 1<<32+8, 1<<61, 1<<61+1, 1<<61+8, top, top+1, math.MaxInt-1, math.MaxInt)
}

// sample returns n bytes that differ from each other where n is small.
func sample(n int) []byte {
	b := make([]byte, n)
	for i := range b {
		b[i] = byte(200 + 7*i)
	}
	return b
}

func fault(code api.Errno, at int) api.Fault { return api.Fault{Code: code, At: at} }

// reader returns a reader of bytes, of which the first n were read.
func reader(t *testing.T, b []byte, n int) *wire.Reader {
	t.Helper()
	r := wire.New(b)
	if r == nil {
		t.Fatalf("New(%x) = nil", b)
	}
	if got := r.Bytes(n); !bytes.Equal(got, b[:n]) {
		t.Fatalf("Bytes(%d) of %x = %x", n, b, got)
	}
	return r
}

// checkState checks the methods of a reader that read nothing.
func checkState(t *testing.T, what string, r *wire.Reader, at, rest int, want api.Fault) {
	t.Helper()
	if r.At() != at || r.Rest() != rest || r.Fault() != want {
		t.Fatalf("%s: At = %d, Rest = %d, Fault = %v, want %d, %d, %v", what, r.At(), r.Rest(), r.Fault(), at, rest, want)
	}
}

// checkStopped checks that no reading method of a reader reads anything or changes its state.
func checkStopped(t *testing.T, what string, r *wire.Reader) {
	t.Helper()
	at, rest, f := r.At(), r.Rest(), r.Fault()
	for _, n := range sizes() {
		if x := r.Uint(n); x != 0 {
			t.Errorf("%s: Uint(%d) = %d", what, n, x)
		}
		if b := r.Bytes(n); len(b) != 0 {
			t.Errorf("%s: Bytes(%d) = %x", what, n, b)
		}
		checkState(t, what, r, at, rest, f)
	}
	if n := r.Length(); n != 0 {
		t.Errorf("%s: Length = %d", what, n)
	}
	checkState(t, what, r, at, rest, f)
	for _, b := range [][]byte{nil, {}, {0}, {200}, {9, 9}, sample(3), sample(20)} {
		if r.Expect(b, api.ErrMagic) {
			t.Errorf("%s: Expect(%x) = true", what, b)
		}
		checkState(t, what, r, at, rest, f)
	}
	r.Fail(api.ErrKind, 77)
	checkState(t, what, r, at, rest, f)
}

// P6.1

func TestAppendOfTheChapter(t *testing.T) {
	for _, c := range []struct {
		b    []byte
		l    []wire.Field
		want []byte
	}{
		{nil, nil, nil},
		{[]byte{}, []wire.Field{}, nil},
		{[]byte{7, 8}, nil, []byte{7, 8}},
		{nil, []wire.Field{{Value: 258, Size: 3}}, []byte{0, 1, 2}},
		{[]byte{7}, []wire.Field{{Value: 258, Size: 3}}, []byte{7, 0, 1, 2}},
		{nil, []wire.Field{{Value: 0, Size: 1}}, []byte{0}},
		{nil, []wire.Field{{Value: 0, Size: 8}}, make([]byte, 8)},
		{nil, []wire.Field{{Value: 0x0102030405060708, Size: 8}}, []byte{1, 2, 3, 4, 5, 6, 7, 8}},
		{nil, []wire.Field{{Value: 1, Size: 1}, {Value: 2, Size: 2}, {Value: 0xfedcba, Size: 3}}, []byte{1, 0, 2, 0xfe, 0xdc, 0xba}},
		{[]byte{9, 9}, []wire.Field{{Value: 5, Size: 1}, {Value: 5, Size: 1}, {Value: 4, Size: 1}}, []byte{9, 9, 5, 5, 4}},
	} {
		if got, ok := wire.Append(c.b, c.l...); !bytes.Equal(got, c.want) || !ok {
			t.Errorf("Append(%x, %v) = %x, %v, want %x", c.b, c.l, got, ok, c.want)
		}
	}
}

// wantNumber returns the bytes of a number, if it has a size.
func wantNumber(f wire.Field) ([]byte, bool) {
	if f.Size < 1 || f.Size > 8 {
		return nil, false
	}
	digits := new(big.Int).SetUint64(f.Value).Bytes()
	if len(digits) > f.Size {
		return nil, false
	}
	return append(make([]byte, f.Size-len(digits)), digits...), true
}

// TestAppendOfOneField has each number with each size.
func TestAppendOfOneField(t *testing.T) {
	for _, value := range numbers() {
		for _, size := range sizes() {
			f := wire.Field{Value: value, Size: size}
			want, wantOK := wantNumber(f)
			if got, ok := wire.Append(nil, f); !bytes.Equal(got, want) || ok != wantOK {
				t.Errorf("Append(nil, %v) = %x, %v, want %x, %v", f, got, ok, want, wantOK)
			}
		}
	}
}

// TestAppendOfManyFields has fields that cannot be written at each place of a list.
func TestAppendOfManyFields(t *testing.T) {
	wrong := []wire.Field{{Size: 0}, {Size: -1}, {Size: 9}, {Size: math.MinInt}, {Size: math.MaxInt}, {Value: 256, Size: 1}, {Value: 1 << 16, Size: 2}, {Value: 1 << 32, Size: 4}, {Value: 1 << 56, Size: 7}, {Value: math.MaxUint64, Size: 7}}
	b := []byte{1, 2, 3}
	for count := range 6 {
		var l []wire.Field
		want := slices.Clone(b)
		for i := range count {
			f := wire.Field{Value: uint64(i), Size: 1 + (3*i)%8}
			number, _ := wantNumber(f)
			l, want = append(l, f), append(want, number...)
		}
		if got, ok := wire.Append(b, l...); !bytes.Equal(got, want) || !ok {
			t.Errorf("Append(%x, %v) = %x, %v, want %x", b, l, got, ok, want)
		}
		for i := range count + 1 {
			for _, f := range wrong {
				if got, ok := wire.Append(b, slices.Insert(slices.Clone(l), i, f)...); len(got) != 0 || ok {
					t.Errorf("Append with %v at %d of %v = %x, %v", f, i, l, got, ok)
				}
			}
		}
	}
}

func TestAppendReturnsNewMemory(t *testing.T) {
	for _, l := range [][]wire.Field{nil, {{Value: 5, Size: 1}}, {{Value: 6, Size: 8}, {Value: 7, Size: 2}}, {{Value: 6, Size: 8}, {Size: 9}}} {
		backing := sample(40)
		before, fields := slices.Clone(backing), slices.Clone(l)
		first, ok := wire.Append(backing[:10], l...)
		second, _ := wire.Append(backing[:10], l...)
		if !bytes.Equal(backing, before) || !slices.Equal(l, fields) {
			t.Errorf("Append(b, %v) has changed its arguments", l)
		}
		if !ok {
			continue
		}
		want := slices.Clone(first)
		clear(backing)
		clear(second[:cap(second)])
		if !bytes.Equal(first, want) || !bytes.Equal(first[:10], before[:10]) {
			t.Errorf("the result of Append(b, %v) has become %x", l, first)
		}
	}
}

// P6.2

func TestNewReadsNothing(t *testing.T) {
	for _, b := range [][]byte{nil, {}, {5}, sample(30)} {
		checkState(t, "New", reader(t, b, 0), 0, len(b), api.Fault{})
	}
}

func TestNewCopies(t *testing.T) {
	backing := sample(30)
	before := slices.Clone(backing)
	r := reader(t, backing[:20], 0)
	clear(backing)
	if x := r.Uint(2); x != uint64(before[0])<<8|uint64(before[1]) {
		t.Errorf("Uint = %#x", x)
	}
	if !r.Expect(before[2:5], api.ErrMagic) {
		t.Error("Expect = false")
	}
	if b := r.Bytes(15); !bytes.Equal(b, before[5:20]) {
		t.Errorf("Bytes = %x", b)
	}
	checkState(t, "the bytes cleared", r, 20, 0, api.Fault{})
}

// wantRead is the error of a call that reads n bytes at an offset of some bytes, of which least and most can be read at a time.
func wantRead(n, least, most, at, all int) api.Fault {
	if n < least || n > most {
		return fault(api.ErrRange, at)
	}
	if n > all-at {
		return fault(api.ErrShort, all)
	}
	return api.Fault{}
}

// eachPlace calls a function with bytes of each small length and each offset.
func eachPlace(f func(b []byte, at int)) {
	for n := range 19 {
		for at := range n + 1 {
			f(sample(n), at)
		}
	}
}

func TestUint(t *testing.T) {
	eachPlace(func(b []byte, at int) {
		for _, size := range sizes() {
			r, f := reader(t, b, at), wantRead(size, 1, 8, at, len(b))
			var want uint64
			after := at
			if f == (api.Fault{}) {
				after = at + size
				want = new(big.Int).SetBytes(b[at:after]).Uint64()
			}
			if x := r.Uint(size); x != want {
				t.Fatalf("Uint(%d) at %d of %x = %#x, want %#x", size, at, b, x, want)
			}
			checkState(t, "Uint", r, after, len(b)-after, f)
		}
	})
}

// TestUintOfEachNumber has each byte at each place of a number.
func TestUintOfEachNumber(t *testing.T) {
	for size := 1; size <= 8; size++ {
		for i := range size {
			for x := range 256 {
				b := make([]byte, size)
				b[i] = byte(x)
				r := reader(t, b, 0)
				if got, want := r.Uint(size), uint64(x)<<(8*(size-1-i)); got != want {
					t.Fatalf("Uint(%d) of %x = %#x, want %#x", size, b, got, want)
				}
			}
		}
	}
}

func TestBytes(t *testing.T) {
	eachPlace(func(b []byte, at int) {
		for _, n := range sizes() {
			r, f := reader(t, b, at), wantRead(n, 0, math.MaxInt, at, len(b))
			var want []byte
			after := at
			if f == (api.Fault{}) {
				after = at + n
				want = b[at:after]
			}
			if got := r.Bytes(n); !bytes.Equal(got, want) {
				t.Fatalf("Bytes(%d) at %d of %x = %x, want %x", n, at, b, got, want)
			}
			checkState(t, "Bytes", r, after, len(b)-after, f)
		}
	})
}

func TestBytesReturnsNewMemory(t *testing.T) {
	b := sample(20)
	before := slices.Clone(b)
	r := reader(t, b, 0)
	first := r.Bytes(8)
	clear(first[:cap(first)])
	second := r.Bytes(8)
	if !bytes.Equal(b, before) || !bytes.Equal(second, before[8:16]) {
		t.Errorf("the bytes %x, and Bytes = %x", b, second)
	}
	clear(second[:cap(second)])
	if third := r.Bytes(4); !bytes.Equal(third, before[16:]) {
		t.Errorf("Bytes = %x", third)
	}
}

// P6.3

func TestLengthOfEachNumber(t *testing.T) {
	for _, value := range numbers() {
		for at := range 3 {
			b := append(binary.BigEndian.AppendUint64(sample(at), value), 9, 9)
			r := reader(t, b, at)
			want, f := 0, fault(api.ErrRange, at)
			if value <= top {
				want, f = int(value), api.Fault{}
			}
			if n := r.Length(); n != want {
				t.Errorf("Length of %#x = %d, want %d", value, n, want)
			}
			checkState(t, "Length", r, at+8, 2, f)
			if f != (api.Fault{}) {
				checkStopped(t, "after a length that is too great", r)
			}
		}
	}
}

func TestLengthOfMissingBytes(t *testing.T) {
	eachPlace(func(b []byte, at int) {
		// The first bytes of a length that is too great are no reason for another error.
		for i := at; i < len(b); i++ {
			b[i] = 0xff
		}
		if len(b)-at >= 8 {
			return
		}
		r := reader(t, b, at)
		if n := r.Length(); n != 0 {
			t.Errorf("Length of %d bytes = %d", len(b)-at, n)
		}
		checkState(t, "Length", r, at, len(b)-at, fault(api.ErrShort, len(b)))
	})
}

func TestLengthAtTheEnd(t *testing.T) {
	for value, want := range map[uint64]api.Fault{0: {}, top: {}, top + 1: fault(api.ErrRange, 3), math.MaxUint64: fault(api.ErrRange, 3)} {
		r := reader(t, binary.BigEndian.AppendUint64(sample(3), value), 3)
		r.Length()
		checkState(t, "Length", r, 11, 0, want)
	}
}

// P6.4

// words returns all byte strings of at most n bytes, of which each is 0, 1 or 255.
func words(n int) [][]byte {
	list := [][]byte{nil}
	for begin := 0; n > 0; n-- {
		end := len(list)
		for _, w := range list[begin:end] {
			for _, x := range []byte{0, 1, 255} {
				list = append(list, append(slices.Clone(w), x))
			}
		}
		begin = end
	}
	return list
}

// TestExpectOfSmallBytes compares all small byte strings with all that can be left in a reader.
func TestExpectOfSmallBytes(t *testing.T) {
	all := words(4)
	for _, left := range all {
		for _, b := range all {
			for at := range 3 {
				whole := append(sample(at), left...)
				r := reader(t, whole, at)
				same := bytes.HasPrefix(left, b)
				after, f := at, fault(api.ErrMagic, at)
				switch {
				case same:
					after, f = at+len(b), api.Fault{}
				case bytes.HasPrefix(b, left):
					f = fault(api.ErrShort, len(whole))
				}
				if got := r.Expect(b, api.ErrMagic); got != same {
					t.Fatalf("Expect(%x) of %x = %v", b, left, got)
				}
				checkState(t, "Expect", r, after, len(whole)-after, f)
			}
		}
	}
}

// codes are error codes of the program, and others.
func codes() []api.Errno {
	return []api.Errno{math.MinInt, -1, api.ErrNil, api.ErrRange, api.ErrShort, api.ErrMagic, api.ErrVersion, api.ErrName, 23, math.MaxInt}
}

func TestExpectWithEachCode(t *testing.T) {
	for _, code := range codes() {
		for at := range 3 {
			for _, c := range []struct {
				b    []byte
				want api.Fault
			}{
				{[]byte{1}, fault(code, at)},
				{[]byte{8, 1, 1}, fault(code, at)},
				{[]byte{8, 9, 1}, fault(api.ErrShort, at+2)},
				{[]byte{8}, api.Fault{}},
			} {
				r := reader(t, append(sample(at), 8, 9), at)
				if got := r.Expect(c.b, code); got != (c.want == api.Fault{}) {
					t.Errorf("Expect(%x, %d) = %v", c.b, code, got)
				}
				if r.Fault() != c.want {
					t.Errorf("Expect(%x, %d): Fault = %v, want %v", c.b, code, r.Fault(), c.want)
				}
			}
		}
	}
}

// TestExpectWithOK has the code that Fail does not record either, at differing bytes.
func TestExpectWithOK(t *testing.T) {
	r := reader(t, []byte{1, 2, 3}, 1)
	if r.Expect([]byte{9}, api.OK) {
		t.Error("Expect = true")
	}
	checkState(t, "Expect of other bytes with OK", r, 1, 2, api.Fault{})
	if !r.Expect([]byte{2}, api.OK) {
		t.Error("Expect of the same bytes = false")
	}
	checkState(t, "Expect of the same bytes with OK", r, 2, 1, api.Fault{})
	if r.Expect([]byte{3, 4}, api.OK) {
		t.Error("Expect of missing bytes = true")
	}
	checkState(t, "Expect of missing bytes with OK", r, 2, 1, fault(api.ErrShort, 3))
}

func TestExpectOfManyBytes(t *testing.T) {
	b := sample(1 << 16)
	for i, other := range []int{0, 1, 1 << 8, 1<<16 - 2, 1<<16 - 1} {
		c := slices.Clone(b)
		c[other]++
		r := reader(t, c, 0)
		if r.Expect(b, api.ErrMagic) || r.Fault() != fault(api.ErrMagic, 0) {
			t.Error(i, r.Fault())
		}
		if r := reader(t, c, 0); !r.Expect(b[:other], api.ErrMagic) || r.At() != other {
			t.Error(i, r.At())
		}
	}
}

func TestExpectKeepsItsArgument(t *testing.T) {
	backing := sample(12)
	before := slices.Clone(backing)
	r := reader(t, before[:8], 0)
	// What follows the argument in its memory does not count.
	if !r.Expect(backing[:6], api.ErrMagic) || !bytes.Equal(backing, before) {
		t.Errorf("Expect has changed its argument to %x", backing)
	}
	clear(backing)
	if b := r.Bytes(2); !bytes.Equal(b, before[6:8]) {
		t.Errorf("Bytes = %x", b)
	}
}

// P6.5

func TestFailWithEachCode(t *testing.T) {
	for _, code := range codes() {
		for _, at := range []int{math.MinInt, -1, 0, 1, 3, 4, 5, top, top + 1, math.MaxInt} {
			r := reader(t, sample(4), 1)
			r.Fail(api.OK, at)
			checkState(t, "Fail with OK", r, 1, 3, api.Fault{})
			if x := r.Uint(1); x != uint64(sample(4)[1]) {
				t.Errorf("Uint after Fail with OK = %d", x)
			}
			r.Fail(code, at)
			checkState(t, "Fail", r, 2, 2, fault(code, at))
			r.Fail(api.OK, 9)
			r.Fail(code+1, 3)
			checkState(t, "Fail twice", r, 2, 2, fault(code, at))
			checkStopped(t, "after Fail", r)
		}
	}
}

// TestNothingIsReadAfterAnError has each kind of error.
func TestNothingIsReadAfterAnError(t *testing.T) {
	for what, c := range map[string]struct {
		fail func(r *wire.Reader)
		want api.Fault
	}{
		"Uint of no size":            {func(r *wire.Reader) { r.Uint(0) }, fault(api.ErrRange, 2)},
		"Uint of a size too great":   {func(r *wire.Reader) { r.Uint(9) }, fault(api.ErrRange, 2)},
		"Uint of missing bytes":      {func(r *wire.Reader) { r.Uint(6) }, fault(api.ErrShort, 7)},
		"Bytes of a negative number": {func(r *wire.Reader) { r.Bytes(-1) }, fault(api.ErrRange, 2)},
		"Bytes of missing bytes":     {func(r *wire.Reader) { r.Bytes(6) }, fault(api.ErrShort, 7)},
		"Length of missing bytes":    {func(r *wire.Reader) { r.Length() }, fault(api.ErrShort, 7)},
		"Expect of other bytes":      {func(r *wire.Reader) { r.Expect([]byte{9}, api.ErrMagic) }, fault(api.ErrMagic, 2)},
		"Expect of missing bytes":    {func(r *wire.Reader) { r.Expect(sample(9)[2:], api.ErrMagic) }, fault(api.ErrShort, 7)},
		"Fail":                       {func(r *wire.Reader) { r.Fail(api.ErrVersion, -5) }, fault(api.ErrVersion, -5)},
	} {
		r := reader(t, sample(7), 2)
		c.fail(r)
		checkState(t, what, r, 2, 5, c.want)
		checkStopped(t, what, r)
	}
}

func TestSeveralReads(t *testing.T) {
	r := reader(t, []byte{'G', 'R', 1, 0, 0, 0, 0, 0, 0, 1, 2, 'a', 'b', 'c', 5}, 0)
	checkState(t, "at first", r, 0, 15, api.Fault{})
	if !r.Expect([]byte("GR"), api.ErrMagic) {
		t.Error("Expect")
	}
	checkState(t, "after Expect", r, 2, 13, api.Fault{})
	if x := r.Uint(1); x != 1 {
		t.Error("Uint", x)
	}
	checkState(t, "after Uint", r, 3, 12, api.Fault{})
	if n := r.Length(); n != 258 {
		t.Error("Length", n)
	}
	checkState(t, "after Length", r, 11, 4, api.Fault{})
	if b := r.Bytes(3); string(b) != "abc" {
		t.Error("Bytes", b)
	}
	checkState(t, "after Bytes", r, 14, 1, api.Fault{})
	if len(r.Bytes(0)) != 0 || !r.Expect(nil, api.ErrMagic) || r.Uint(1) != 5 || len(r.Bytes(0)) != 0 || !r.Expect(nil, api.ErrMagic) {
		t.Error("the end")
	}
	checkState(t, "at the end", r, 15, 0, api.Fault{})
	if r.Uint(1) != 0 {
		t.Error("Uint after the end")
	}
	checkState(t, "after the end", r, 15, 0, fault(api.ErrShort, 15))
}

// P6.6

func TestFieldsAreRead(t *testing.T) {
	random := rand.New(rand.NewPCG(6, 6))
	for range 3000 {
		b := sample(random.IntN(4))
		var l []wire.Field
		for range random.IntN(12) {
			size := 1 + random.IntN(8)
			// Many numbers have fewer digits than their size.
			value := random.Uint64() >> (64 - 8*size) >> random.IntN(8*size)
			l = append(l, wire.Field{Value: value, Size: size})
		}
		all, ok := wire.Append(b, l...)
		if !ok {
			t.Fatalf("Append(%x, %v) = false", b, l)
		}
		r, at := reader(t, all, len(b)), len(b)
		for i, f := range l {
			if x := r.Uint(f.Size); x != f.Value {
				t.Fatalf("field %d of %v is %#x", i, l, x)
			}
			at += f.Size
			checkState(t, "a field", r, at, len(all)-at, api.Fault{})
		}
		checkState(t, "all fields", r, len(all), 0, api.Fault{})
	}
}

func TestLengthsAreRead(t *testing.T) {
	for _, value := range numbers() {
		all, _ := wire.Append(nil, wire.Field{Value: value, Size: 8}, wire.Field{Value: value & 255, Size: 1})
		r := reader(t, all, 0)
		if value <= top && (r.Length() != int(value) || r.Uint(1) != value&255 || r.Rest() != 0) {
			t.Errorf("%#x is read as another length", value)
		}
	}
}

// Nil readers

func TestNilReader(t *testing.T) {
	var none *wire.Reader
	none.Fail(api.ErrKind, 3)
	checkState(t, "nil", none, 0, 0, fault(api.ErrNil, 0))
	checkStopped(t, "nil", none)
}

// P2 and the rules on objects

func TestReadersAreIndependent(t *testing.T) {
	b := sample(9)
	first, second := reader(t, b, 0), reader(t, b, 0)
	first.Uint(3)
	first.Fail(api.ErrKind, 5)
	checkState(t, "the other reader", second, 0, 9, api.Fault{})
	second.Bytes(5)
	checkState(t, "the other reader, which has read", second, 5, 4, api.Fault{})
	checkState(t, "the first reader", first, 3, 6, fault(api.ErrKind, 5))
	checkState(t, "a reader after them", reader(t, b, 0), 0, 9, api.Fault{})
}

func TestConcurrentCalls(t *testing.T) {
	var group sync.WaitGroup
	for i := range 8 {
		group.Go(func() {
			for k := range 200 {
				value := uint64(1000*i + k)
				all, ok := wire.Append(nil, wire.Field{Value: value, Size: 2}, wire.Field{Value: value, Size: 8})
				r := wire.New(all)
				if !ok || r == nil || r.Uint(2) != value || r.Length() != int(value) || r.Rest() != 0 {
					t.Errorf("%d is read as another number", value)
				}
			}
		})
	}
	group.Wait()
}
