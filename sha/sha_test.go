package sha_test

import (
	"bytes"
	"crypto/sha256"
	"encoding/hex"
	"slices"
	"strings"
	"sync"
	"testing"

	"graft/sha"
)

// long is longer than four blocks, so that paddings of each length follow one block and several.
const long = 4*64 + 9

// sample returns n bytes that follow no pattern of a block's length.
func sample(n int) []byte {
	b := make([]byte, n)
	word := uint32(n + 1)
	for i := range b {
		word = word*1664525 + 1013904223
		b[i] = byte(word >> 24)
	}
	return b
}

// checkHash compares a hash with the bytes that it should have taken.
func checkHash(t *testing.T, what string, h *sha.Hash, taken []byte) {
	t.Helper()
	if h == nil {
		t.Fatalf("%s: nil hash", what)
	}
	if got, want := h.Sum(), sha256.Sum256(taken); got != want {
		t.Errorf("%s: Sum after %d bytes = %x, want %x", what, len(taken), got, want)
	}
	if h.Len() != len(taken) {
		t.Errorf("%s: Len after %d bytes = %d", what, len(taken), h.Len())
	}
}

// mustWrite writes parts and checks the number that Write returns.
func mustWrite(t *testing.T, h *sha.Hash, parts ...[]byte) {
	t.Helper()
	want := len(slices.Concat(parts...))
	if got := h.Write(parts...); got != want {
		t.Errorf("Write of %d bytes = %d", want, got)
	}
}

// known are digests of the standard and of its examples.
func known() map[string]string {
	return map[string]string{
		"":    "e3b0c44298fc1c149afbf4c8996fb92427ae41e4649b934ca495991b7852b855",
		"abc": "ba7816bf8f01cfea414140de5dae2223b00361a396177a9cb410ff61f20015ad",
		"abcdbcdecdefdefgefghfghighijhijkijkljklmklmnlmnomnopnopq":                                                         "248d6a61d20638b8e5c026930c3e6039a33ce45964ff2167f6ecedd419db06c1",
		"abcdefghbcdefghicdefghijdefghijkefghijklfghijklmghijklmnhijklmnoijklmnopjklmnopqklmnopqrlmnopqrsmnopqrstnopqrstu": "cf5b16a778af8380036ce59e7b0492370b249b11e8f07a51afac45037afee9d1",
		strings.Repeat("a", 1000000): "cdc76e5c9914fb9281a1c7e284d73e67f1809a48a497200e046d39ccc7112cd0",
	}
}

// P2.1

func TestNewHashHasTakenNothing(t *testing.T) {
	h := sha.New()
	checkHash(t, "New", h, nil)
	mustWrite(t, h)
	mustWrite(t, h, nil, []byte{}, nil)
	checkHash(t, "New, and no bytes", h, nil)
}

func TestKnownDigests(t *testing.T) {
	for text, want := range known() {
		h := sha.New()
		mustWrite(t, h, []byte(text))
		if got := sha.Format(h.Sum()); got != want || h.Len() != len(text) {
			t.Errorf("digest of %.20q (%d bytes) = %s, want %s", text, h.Len(), got, want)
		}
	}
}

func TestEachLength(t *testing.T) {
	for n := range long {
		b := sample(n)
		h := sha.New()
		mustWrite(t, h, b)
		checkHash(t, "one Write", h, b)
	}
	for _, fill := range []byte{0, 0x80, 0xff} {
		for n := range long {
			b := bytes.Repeat([]byte{fill}, n)
			if got, want := sha.Of(b), sha256.Sum256(b); got != want {
				t.Errorf("Of %d bytes %#x = %x, want %x", n, fill, got, want)
			}
		}
	}
}

func TestPartsInOrder(t *testing.T) {
	h := sha.New()
	mustWrite(t, h, []byte("ab"), nil, []byte("c"), []byte{}, []byte("def"))
	checkHash(t, "one call", h, []byte("abcdef"))
	mustWrite(t, h, []byte("h"), []byte("g"))
	checkHash(t, "a further call", h, []byte("abcdefhg"))
}

// TestSumChangesNothing takes a digest after each byte, and several times.
func TestSumChangesNothing(t *testing.T) {
	b := sample(long)
	h := sha.New()
	for n := range b {
		checkHash(t, "byte by byte", h, b[:n])
		checkHash(t, "once more", h, b[:n])
		mustWrite(t, h, b[n:n+1])
	}
	checkHash(t, "all bytes", h, b)
}

// TestManyBits hashes so many bytes that the number of bits needs more than 32 bits.
func TestManyBits(t *testing.T) {
	part := sample(1 << 20)
	parts := append(slices.Repeat([][]byte{part}, 512), []byte("xyz"))
	want := sha256.New()
	for _, p := range parts {
		want.Write(p)
	}
	h := sha.New()
	if n := h.Write(parts...); n != 1<<29+3 || h.Len() != n {
		t.Errorf("Write = %d, Len = %d", n, h.Len())
	}
	if got := h.Sum(); !bytes.Equal(got[:], want.Sum(nil)) {
		t.Errorf("Sum = %x, want %x", got, want.Sum(nil))
	}
}

// P2.2

func TestClone(t *testing.T) {
	b, more := sample(long), sample(200)
	for _, n := range []int{0, 1, 55, 56, 63, 64, 65, 119, 120, 128, 200, long} {
		h := sha.New()
		mustWrite(t, h, b[:n])
		c := h.Clone()
		checkHash(t, "clone", c, b[:n])
		mustWrite(t, c, more)
		checkHash(t, "hash after a Write to its clone", h, b[:n])
		checkHash(t, "clone after a Write to it", c, slices.Concat(b[:n], more))
		mustWrite(t, h, b[:1], b)
		checkHash(t, "hash after a Write to it", h, slices.Concat(b[:n], b[:1], b))
		checkHash(t, "clone after a Write to the hash", c, slices.Concat(b[:n], more))
		second := c.Clone()
		mustWrite(t, c, more)
		checkHash(t, "clone of a clone", second, slices.Concat(b[:n], more))
	}
}

func TestOf(t *testing.T) {
	for _, c := range []struct {
		parts []string
		all   string
	}{
		{nil, ""},
		{[]string{""}, ""},
		{[]string{"", "", ""}, ""},
		{[]string{"abc"}, "abc"},
		{[]string{"a", "", "bc"}, "abc"},
		{[]string{"bc", "a"}, "bca"},
		{[]string{strings.Repeat("x", 64), strings.Repeat("y", 64), "z"}, strings.Repeat("x", 64) + strings.Repeat("y", 64) + "z"},
	} {
		var parts [][]byte
		for _, p := range c.parts {
			parts = append(parts, []byte(p))
		}
		if got, want := sha.Of(parts...), sha256.Sum256([]byte(c.all)); got != want {
			t.Errorf("Of(%q) = %x, want %x", c.parts, got, want)
		}
	}
}

// P2.3

func TestFormat(t *testing.T) {
	zero, full := [32]byte{}, [32]byte{}
	for i := range full {
		full[i] = 0xff
	}
	for d, want := range map[[32]byte]string{
		zero:                         strings.Repeat("0", 64),
		full:                         strings.Repeat("f", 64),
		{0: 0x01, 1: 0x9a, 31: 0xf0}: "019a" + strings.Repeat("0", 58) + "f0",
	} {
		if got := sha.Format(d); got != want {
			t.Errorf("Format(%x) = %s", d, got)
		}
	}
}

// TestFormatAndParse has each byte at each place of a digest.
func TestFormatAndParse(t *testing.T) {
	for b := range 256 {
		var d [32]byte
		for i := range d {
			d[i] = byte(b + i)
		}
		text := sha.Format(d)
		if want := hex.EncodeToString(d[:]); text != want {
			t.Errorf("Format(%x) = %s", d, text)
		}
		if got, ok := sha.Parse(text); got != d || !ok {
			t.Errorf("Parse(%s) = %x, %v", text, got, ok)
		}
	}
}

func TestParseRejectsCharacters(t *testing.T) {
	good := sha.Format(sha.Of([]byte("abc")))
	for i := range good {
		for c := range 256 {
			text := good[:i] + string([]byte{byte(c)}) + good[i+1:]
			valid := '0' <= c && c <= '9' || 'a' <= c && c <= 'f'
			d, ok := sha.Parse(text)
			if ok != valid || valid && sha.Format(d) != text || !valid && d != [32]byte{} {
				t.Fatalf("Parse(%q) = %x, %v", text, d, ok)
			}
		}
	}
}

func TestParseRejectsLengths(t *testing.T) {
	for n := range 131 {
		if n == 64 {
			continue
		}
		text := strings.Repeat("5", n)
		if d, ok := sha.Parse(text); ok || d != [32]byte{} {
			t.Errorf("Parse of %d digits = %x, %v", n, d, ok)
		}
	}
	good := sha.Format(sha.Of())
	for _, text := range []string{
		strings.ToUpper(good),
		" " + good,
		good + "\n",
		good[:63] + " ",
		"0x" + good[2:],
		"+" + good[1:],
		"-" + good[1:],
		good[:32] + "_" + good[33:],
		good[:62] + "é",
		good[:61] + "５",
		strings.Repeat("é", 32),
		strings.Repeat("é", 64),
		strings.Repeat("g", 64),
		strings.Repeat("\x00", 64),
		strings.Repeat("\xff", 64),
	} {
		if d, ok := sha.Parse(text); ok || d != [32]byte{} {
			t.Errorf("Parse(%q) = %x, %v", text, d, ok)
		}
	}
}

// P2.4

func TestDivisionsDoNotMatter(t *testing.T) {
	b := sample(long)
	want := sha256.Sum256(b)
	for i := range long + 1 {
		for j := i; j <= long; j += 7 {
			if got := sha.Of(b[:i], b[i:j], b[j:]); got != want {
				t.Fatalf("Of in parts at %d and %d = %x", i, j, got)
			}
		}
	}
	for size := 1; size <= long; size++ {
		calls, parts := sha.New(), slices.Collect(slices.Chunk(b, size))
		for _, p := range parts {
			mustWrite(t, calls, p)
		}
		checkHash(t, "one call a part", calls, b)
		call := sha.New()
		mustWrite(t, call, parts...)
		checkHash(t, "one call", call, b)
	}
}

// Nil hashes

func TestNilHash(t *testing.T) {
	var none *sha.Hash
	if n := none.Write([]byte("abc"), []byte("d")); n != 0 {
		t.Errorf("Write = %d", n)
	}
	if d := none.Sum(); d != [32]byte{} {
		t.Errorf("Sum = %x", d)
	}
	if n := none.Len(); n != 0 {
		t.Errorf("Len = %d", n)
	}
	if c := none.Clone(); c != nil {
		t.Errorf("Clone = %v", c)
	}
}

// P2 and the rules on slices and objects

func TestHashesAreIndependent(t *testing.T) {
	a, b := sha.New(), sha.New()
	mustWrite(t, a, []byte("first"))
	checkHash(t, "the other hash", b, nil)
	mustWrite(t, b, sample(100))
	checkHash(t, "the first hash", a, []byte("first"))
	checkHash(t, "a hash after others", sha.New(), nil)
}

func TestArgumentsStayAndAreNotKept(t *testing.T) {
	backing := sample(300)
	before := slices.Clone(backing)
	h := sha.New()
	mustWrite(t, h, backing[:70], backing[100:110])
	if got, want := sha.Of(backing[:70]), sha256.Sum256(before[:70]); got != want {
		t.Errorf("Of = %x, want %x", got, want)
	}
	h.Sum()
	if !bytes.Equal(backing, before) {
		t.Error("arguments have changed")
	}
	clear(backing)
	checkHash(t, "arguments cleared", h, slices.Concat(before[:70], before[100:110]))
}

func TestConcurrentCalls(t *testing.T) {
	var group sync.WaitGroup
	for i := range 8 {
		group.Go(func() {
			b := sample(1000 + i)
			d := sha.Of(b[:i], b[i:])
			if got, ok := sha.Parse(sha.Format(d)); got != sha256.Sum256(b) || !ok {
				t.Errorf("digest of %d bytes = %x", len(b), got)
			}
		})
	}
	group.Wait()
}
