package check_test

import (
	"bytes"
	"encoding/binary"
	"hash/crc32"
	"math"
	"slices"
	"strings"
	"sync"
	"testing"

	"graft/check"
)

// most is the greatest length that Flip takes.
const most = 1 << 16

// sample returns n bytes that follow no pattern.
func sample(n int) []byte {
	b := make([]byte, n)
	word := uint32(n + 1)
	for i := range b {
		word = word*1664525 + 1013904223
		b[i] = byte(word >> 24)
	}
	return b
}

// defined is the checksum as the chapter defines it, bit by bit.
func defined(b []byte) uint32 {
	register := uint32(0xffffffff)
	for _, x := range b {
		register ^= uint32(x)
		for range 8 {
			out := register & 1
			register >>= 1
			if out == 1 {
				register ^= 0xedb88320
			}
		}
	}
	return ^register
}

// sealed is the sealed record as the chapter defines it.
func sealed(b []byte) []byte {
	return binary.LittleEndian.AppendUint32(slices.Clone(b), defined(b))
}

// flipped returns a copy of bytes with some bits flipped.
func flipped(b []byte, bits ...int) []byte {
	c := slices.Clone(b)
	for _, bit := range bits {
		c[bit/8] ^= 1 << (bit % 8)
	}
	return c
}

// sums are checksums at which a mistake shows, and some others.
func sums() []uint32 {
	list := []uint32{0, 1, 2, 0xff, 0x100, 0x7fffffff, 0x80000000, 0xfffffffe, 0xffffffff, 0xedb88320, 0xcbf43926}
	for i := range 32 {
		list = append(list, 1<<i, ^(1 << i), 0x9e3779b9*uint32(i+1))
	}
	return list
}

// checkOpens checks that a record is that of some bytes.
func checkOpens(t *testing.T, record, want []byte) {
	t.Helper()
	if got, ok := check.Open(record); !ok || !bytes.Equal(got, want) {
		t.Errorf("Open(%x) = %x, %v, want %x", record, got, ok, want)
	}
}

// checkRejected checks that bytes are no sealed record.
func checkRejected(t *testing.T, b []byte) {
	t.Helper()
	if got, ok := check.Open(b); ok || len(got) != 0 {
		t.Errorf("Open(%x) = %x, %v", b, got, ok)
	}
}

// P3.1

func TestKnownChecksums(t *testing.T) {
	for text, want := range map[string]uint32{
		"":          0,
		"\x00":      0xd202ef8d,
		"\xff":      0xff000000,
		"a":         0xe8b7be43,
		"abc":       0x352441c2,
		"123456789": 0xcbf43926,
		"The quick brown fox jumps over the lazy dog": 0x414fa339,
		strings.Repeat("\x00", 32):                    0x190a55ad,
		strings.Repeat("\xff", 32):                    0xff6cab0b,
		"\xff\xff\xff\xff":                            0xffffffff,
	} {
		if got := check.Of([]byte(text)); got != want {
			t.Errorf("Of(%q) = %#x, want %#x", text, got, want)
		}
	}
}

func TestEachLength(t *testing.T) {
	for n := range 300 {
		for _, b := range [][]byte{sample(n), make([]byte, n), bytes.Repeat([]byte{0xff}, n)} {
			if got, want := check.Of(b), defined(b); got != want {
				t.Errorf("Of(%x) = %#x, want %#x", b, got, want)
			}
		}
	}
	b := sample(1<<20 + 3)
	if got, want := check.Of(b), crc32.ChecksumIEEE(b); got != want {
		t.Errorf("Of %d bytes = %#x, want %#x", len(b), got, want)
	}
}

// TestEachByteAfterSums adds each byte to many checksums, so that each value of a register's lowest bits occurs.
func TestEachByteAfterSums(t *testing.T) {
	for _, sum := range sums() {
		for x := range 256 {
			more := []byte{byte(x), byte(x + 1)}
			if got, want := check.Extend(sum, more), crc32.Update(sum, crc32.IEEETable, more); got != want {
				t.Errorf("Extend(%#x, %x) = %#x, want %#x", sum, more, got, want)
			}
		}
	}
}

func TestPartsInOrder(t *testing.T) {
	for _, c := range []struct {
		parts []string
		all   string
	}{
		{nil, ""},
		{[]string{""}, ""},
		{[]string{"", "", ""}, ""},
		{[]string{"abc"}, "abc"},
		{[]string{"a", "", "bc", ""}, "abc"},
		{[]string{"", "bc", "a"}, "bca"},
		{[]string{"1", "2", "3", "4", "5", "6", "7", "8", "9"}, "123456789"},
		{[]string{"same", "same"}, "samesame"},
	} {
		var parts [][]byte
		for _, p := range c.parts {
			parts = append(parts, []byte(p))
		}
		if got, want := check.Of(parts...), defined([]byte(c.all)); got != want {
			t.Errorf("Of(%q) = %#x, want %#x", c.parts, got, want)
		}
		begin := []byte("begin ")
		if got, want := check.Extend(check.Of(begin), parts...), defined([]byte("begin "+c.all)); got != want {
			t.Errorf("Extend by %q = %#x, want %#x", c.parts, got, want)
		}
	}
}

func TestExtendByNothing(t *testing.T) {
	for _, sum := range sums() {
		for _, parts := range [][][]byte{nil, {nil}, {{}, nil, {}}} {
			if got := check.Extend(sum, parts...); got != sum {
				t.Errorf("Extend(%#x, %v) = %#x", sum, parts, got)
			}
		}
	}
}

func TestDivisionsDoNotMatter(t *testing.T) {
	b := sample(40)
	want := defined(b)
	for i := range len(b) + 1 {
		for j := i; j <= len(b); j++ {
			if got := check.Of(b[:i], b[i:j], b[j:]); got != want {
				t.Errorf("Of in parts at %d and %d = %#x, want %#x", i, j, got, want)
			}
			if got := check.Extend(check.Of(b[:i]), b[i:j], b[j:]); got != want {
				t.Errorf("Extend at %d, in parts at %d = %#x, want %#x", i, j, got, want)
			}
			if got := check.Extend(check.Extend(check.Of(b[:i]), b[i:j]), b[j:]); got != want {
				t.Errorf("Extend at %d and at %d = %#x, want %#x", i, j, got, want)
			}
		}
	}
}

// P3.2

func TestSealAndOpen(t *testing.T) {
	for n := range 300 {
		for _, b := range [][]byte{sample(n), make([]byte, n), bytes.Repeat([]byte{0xff}, n)} {
			record := check.Seal(b)
			if want := sealed(b); !bytes.Equal(record, want) {
				t.Errorf("Seal(%x) = %x, want %x", b, record, want)
			}
			checkOpens(t, record, b)
		}
	}
	if got, want := check.Seal([]byte("123456789")), []byte("123456789\x26\x39\xf4\xcb"); !bytes.Equal(got, want) {
		t.Errorf("Seal = %x, want %x", got, want)
	}
}

func TestRecordOfNoBytes(t *testing.T) {
	for _, none := range [][]byte{nil, {}} {
		if got := check.Seal(none); !bytes.Equal(got, make([]byte, 4)) {
			t.Errorf("Seal(%v) = %x", none, got)
		}
	}
	checkOpens(t, make([]byte, 4), nil)
	for n := range 4 {
		checkRejected(t, make([]byte, n))
		checkRejected(t, bytes.Repeat([]byte{0xff}, n))
	}
	checkRejected(t, nil)
	checkRejected(t, make([]byte, 5))
	checkRejected(t, make([]byte, 8))
}

func TestRecordInRecord(t *testing.T) {
	inner := check.Seal([]byte("abc"))
	checkOpens(t, check.Seal(inner), inner)
	checkOpens(t, inner, []byte("abc"))
}

// TestEachByteOfARecord replaces each byte of a record by each byte: one of them is right.
func TestEachByteOfARecord(t *testing.T) {
	b := []byte("record")
	good := check.Seal(b)
	for i := range good {
		for x := range 256 {
			record := slices.Clone(good)
			record[i] = byte(x)
			if bytes.Equal(record, good) {
				checkOpens(t, record, b)
			} else {
				checkRejected(t, record)
			}
		}
	}
}

func TestOpenRejectsOtherForms(t *testing.T) {
	b := []byte("a body of some length")
	sum := defined(b)
	inverted := binary.LittleEndian.AppendUint32(slices.Clone(b), ^sum)
	first := append(binary.LittleEndian.AppendUint32(nil, sum), b...)
	for _, record := range [][]byte{b, binary.BigEndian.AppendUint32(slices.Clone(b), sum), inverted, first} {
		checkRejected(t, record)
	}
	good := check.Seal(b)
	for i := range good {
		checkRejected(t, good[:i])
		if i > 0 {
			checkRejected(t, good[i:])
		}
		checkRejected(t, slices.Delete(slices.Clone(good), i, i+1))
	}
	for x := range 256 {
		checkRejected(t, append(slices.Clone(good), byte(x)))
		checkRejected(t, append([]byte{byte(x)}, good...))
	}
}

// P3.3

// checkFlip compares a Flip with the checksums of bytes.
func checkFlip(t *testing.T, b []byte, bit int) {
	t.Helper()
	want := crc32.ChecksumIEEE(b) ^ crc32.ChecksumIEEE(flipped(b, bit))
	if got := check.Flip(len(b), bit); got != want || got == 0 {
		t.Errorf("Flip(%d, %d) = %#x, want %#x", len(b), bit, got, want)
	}
}

func TestFlipEachBit(t *testing.T) {
	for n := 1; n <= 40; n++ {
		for bit := range 8 * n {
			checkFlip(t, sample(n), bit)
			checkFlip(t, make([]byte, n), bit)
			checkFlip(t, bytes.Repeat([]byte{0xff}, n), bit)
		}
	}
}

func TestFlipInLongBytes(t *testing.T) {
	for _, n := range []int{255, 256, 257, 1 << 12, most - 1, most} {
		b := sample(n)
		for _, bit := range []int{0, 1, 7, 8, 9, 4*n - 1, 4 * n, 4*n + 1, 8*n - 9, 8*n - 8, 8*n - 7, 8*n - 1} {
			checkFlip(t, b, bit)
		}
	}
}

func TestFlipKnown(t *testing.T) {
	// A flipped highest bit of the last byte is shifted out in the last step; the register is then the polynomial.
	for _, n := range []int{1, 2, 1000, most} {
		if got := check.Flip(n, 8*n-1); got != 0xedb88320 {
			t.Errorf("Flip(%d, %d) = %#x", n, 8*n-1, got)
		}
	}
}

func TestFlipOutside(t *testing.T) {
	edges := []int{math.MinInt, math.MinInt + 1, -most, -9, -8, -1, 0, 1, 7, 8, 9, most - 1, most, most + 1, 8*most - 1, 8 * most, 8*most + 1, 1 << 31, 1 << 60, 1 << 61, 1<<61 + 1, 1 << 62, math.MaxInt - 1, math.MaxInt}
	for _, n := range edges {
		for _, bit := range edges {
			inside := 1 <= n && n <= most && 0 <= bit && bit/8 < n
			if got := check.Flip(n, bit); (got != 0) != inside {
				t.Errorf("Flip(%d, %d) = %#x", n, bit, got)
			}
		}
	}
	for n := 1; n <= 20; n++ {
		for _, bit := range []int{-1, -8, 8 * n, 8*n + 1, 8*n + 7, 8*n + 8} {
			if got := check.Flip(n, bit); got != 0 {
				t.Errorf("Flip(%d, %d) = %#x", n, bit, got)
			}
		}
	}
}

// TestFlipsOfSeveralBits follows from the definition: changes of several bits are combined by exclusive or.
func TestFlipsOfSeveralBits(t *testing.T) {
	b := sample(12)
	for i := range 8 * len(b) {
		for j := range i {
			want := defined(flipped(b, i, j))
			if got := check.Of(b) ^ check.Flip(len(b), i) ^ check.Flip(len(b), j); got != want {
				t.Errorf("bits %d and %d: %#x, want %#x", i, j, got, want)
			}
		}
	}
}

// P3.4

func TestFlippedBitIsNoticed(t *testing.T) {
	for n := range 70 {
		record := check.Seal(sample(n))
		for bit := range 8 * len(record) {
			checkRejected(t, flipped(record, bit))
		}
	}
	record := check.Seal(sample(5000))
	for bit := 0; bit < 8*len(record); bit += 37 {
		checkRejected(t, flipped(record, bit))
	}
}

// change flips the bits of a record that a pattern has, from a bit on; false if the record has fewer than 32 bits from there on.
func change(record []byte, from int, pattern uint32) ([]byte, bool) {
	if from+32 > 8*len(record) {
		return nil, false
	}
	var bits []int
	for i := range 32 {
		if pattern>>i&1 == 1 {
			bits = append(bits, from+i)
		}
	}
	return flipped(record, bits...), true
}

// patterns are changes of up to 32 consecutive bits.
func patterns() []uint32 {
	list := []uint32{0xffffffff, 0xaaaaaaaa, 0x55555555, 0xedb88320, 0x04c11db7, 0x82608edb, 0xdb710641}
	for i := range 32 {
		list = append(list, math.MaxUint32>>i, math.MaxUint32<<i)
		for j := range i {
			list = append(list, 1<<i|1<<j)
		}
	}
	word := uint32(1)
	for range 200 {
		word = word*1664525 + 1013904223
		list = append(list, word|1)
	}
	return list
}

func TestChangeOf32BitsIsNoticed(t *testing.T) {
	for _, n := range []int{0, 1, 2, 3, 4, 5, 8, 20} {
		record := check.Seal(sample(n))
		for _, pattern := range patterns() {
			for from := range 8 * len(record) {
				if changed, ok := change(record, from, pattern); ok {
					checkRejected(t, changed)
				}
			}
		}
	}
}

func TestSmallChangesAreNoticed(t *testing.T) {
	record := check.Seal(sample(3))
	for pattern := uint32(1); pattern < 1<<12; pattern++ {
		for from := range 8*len(record) - 31 {
			low, ok := change(record, from, pattern)
			high, also := change(record, from, pattern<<20)
			if !ok || !also {
				t.Fatalf("no change from bit %d on", from)
			}
			checkRejected(t, low)
			checkRejected(t, high)
		}
	}
}

// The rules on slices and concurrent calls

func TestArgumentsStayAndAreNotReadBeyond(t *testing.T) {
	backing := sample(60)
	before := slices.Clone(backing)
	b := backing[:10]
	if got, want := check.Of(b, backing[20:25]), defined(slices.Concat(before[:10], before[20:25])); got != want {
		t.Errorf("Of = %#x, want %#x", got, want)
	}
	if got := check.Seal(b); !bytes.Equal(got, sealed(before[:10])) {
		t.Errorf("Seal = %x", got)
	}
	check.Extend(1, b, backing[30:35])
	check.Open(b)
	if !bytes.Equal(backing, before) {
		t.Error("arguments have changed")
	}
	record := append(check.Seal(b), 1, 2, 3)
	kept := slices.Clone(record)
	checkOpens(t, record[:14], b)
	if !bytes.Equal(record, kept) {
		t.Error("the record has changed")
	}
}

// spoil changes all bytes of a slice's memory.
func spoil(b []byte) {
	for i := range b[:cap(b)] {
		b[:cap(b)][i] ^= 0xff
	}
}

func TestResultsAreNew(t *testing.T) {
	for _, n := range []int{0, 1, 5, 28, 100} {
		backing := sample(n + 50)
		before := slices.Clone(backing)
		b, want := backing[:n], sealed(before[:n])
		first, second := check.Seal(b), check.Seal(b)
		spoil(first)
		if !bytes.Equal(second, want) || !bytes.Equal(backing, before) {
			t.Errorf("Seal of %d bytes shares memory", n)
		}
		record := append(slices.Clone(want), 7, 8, 9)
		kept := slices.Clone(record)
		body, _ := check.Open(record[:n+4])
		other, _ := check.Open(record[:n+4])
		spoil(body)
		if !bytes.Equal(other, b) || !bytes.Equal(record, kept) {
			t.Errorf("Open of %d bytes shares memory", n)
		}
	}
}

func TestConcurrentCalls(t *testing.T) {
	var group sync.WaitGroup
	for i := range 8 {
		group.Go(func() {
			b := sample(1000 + i)
			if got, ok := check.Open(check.Seal(b)); !ok || !bytes.Equal(got, b) {
				t.Errorf("Open of the record of %d bytes = %x, %v", len(b), got, ok)
			}
			if got := check.Of(b) ^ check.Flip(len(b), i); got != defined(flipped(b, i)) {
				t.Errorf("Flip(%d, %d) is wrong", len(b), i)
			}
		})
	}
	group.Wait()
}
