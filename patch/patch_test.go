package patch_test

import (
	"bytes"
	"crypto/sha256"
	"math"
	"math/rand/v2"
	"slices"
	"sync"
	"testing"

	"graft/api"
	"graft/delta"
	"graft/patch"
)

const top = api.MaxLen

func lit(to int, text string) api.Command {
	return api.Command{Kind: api.Literal, To: to, Data: []byte(text)}
}

func cp(to, from, n int) api.Command {
	return api.Command{Kind: api.Copy, To: to, From: from, Len: n}
}

func fault(code api.Errno, at int) api.Fault { return api.Fault{Code: code, At: at} }

// describe returns the delta of two files with some commands.
func describe(old, new string, l ...api.Command) api.Delta {
	return api.Delta{
		OldLen: len(old), NewLen: len(new),
		OldHash: sha256.Sum256([]byte(old)), NewHash: sha256.Sum256([]byte(new)),
		Commands: l,
	}
}

// wantNew is the new file of a valid delta by its definition, byte by byte.
func wantNew(old string, d api.Delta) string {
	file := make([]byte, d.NewLen)
	for off := range file {
		for _, c := range d.Commands {
			if i := off - c.To; i >= 0 && c.Kind == api.Copy && i < c.Len {
				file[off] = old[c.From+i]
			} else if i >= 0 && i < len(c.Data) {
				file[off] = c.Data[i]
			}
		}
	}
	return string(file)
}

// wantVerify is what the chapter says that Verify returns.
func wantVerify(old string, d api.Delta) api.Fault {
	if f := delta.Check(d); f != (api.Fault{}) {
		return f
	}
	if d.OldLen != len(old) {
		return fault(api.ErrOldLen, len(old))
	}
	if d.OldHash != sha256.Sum256([]byte(old)) {
		return fault(api.ErrOldHash, 0)
	}
	if d.NewHash != sha256.Sum256([]byte(wantNew(old, d))) {
		return fault(api.ErrNewHash, 0)
	}
	return api.Fault{}
}

// checkDelta checks Apply, Byte and Verify for a delta, which may not belong to the old file.
func checkDelta(t *testing.T, old string, d api.Delta) {
	t.Helper()
	want := ""
	if d.OldLen == len(old) && delta.Valid(d) {
		want = wantNew(old, d)
	}
	if got := patch.Apply([]byte(old), d); string(got) != want {
		t.Fatalf("Apply(%q, %+v) = %q, want %q", old, d, got, want)
	}
	for off := -2; off < len(want)+3; off++ {
		checkByte(t, old, d, off, want)
	}
	if got, want := patch.Verify([]byte(old), d), wantVerify(old, d); got != want {
		t.Fatalf("Verify(%q, %+v) = %v, want %v", old, d, got, want)
	}
}

// checkByte checks Byte for a delta that leads to a new file.
func checkByte(t *testing.T, old string, d api.Delta, off int, file string) {
	t.Helper()
	var want byte
	exists := off >= 0 && off < len(file)
	if exists {
		want = file[off]
	}
	if got, ok := patch.Byte([]byte(old), d, off); got != want || ok != exists {
		t.Fatalf("Byte(%q, %+v, %d) = %d, %v, want %d, %v", old, d, off, got, ok, want, exists)
	}
}

// text returns n random bytes of an alphabet.
func text(r *rand.Rand, n int, alphabet string) string {
	b := make([]byte, n)
	for i := range b {
		b[i] = alphabet[r.IntN(len(alphabet))]
	}
	return string(b)
}

// randomDelta returns an old file and a valid delta that belongs to it, whose commands are in any order.
func randomDelta(r *rand.Rand) (string, api.Delta) {
	old := text(r, r.IntN(12), "abcdefghij")
	var l []api.Command
	to := 0
	for range r.IntN(8) {
		n := 1 + r.IntN(5)
		if r.IntN(2) == 0 && n <= len(old) {
			l = append(l, cp(to, r.IntN(len(old)-n+1), n))
		} else {
			l = append(l, lit(to, text(r, n, "XYZ\x00\xff")))
		}
		to += n
	}
	r.Shuffle(len(l), func(i, k int) { l[i], l[k] = l[k], l[i] })
	d := api.Delta{OldLen: len(old), NewLen: to, Commands: l}
	return old, describe(old, wantNew(old, d), l...)
}

// known is an old file and a valid delta of every kind of command, not in order; the new file is "ab0567845".
func known() (string, api.Delta) {
	old := "0123456789"
	return old, describe(old, "ab0567845", cp(3, 5, 4), lit(0, "ab"), cp(2, 0, 1), cp(7, 4, 2))
}

// notValid returns changes of the known delta after which it is not valid, with the fault of each.
func notValid() []struct {
	change func(d *api.Delta)
	want   api.Fault
} {
	return []struct {
		change func(d *api.Delta)
		want   api.Fault
	}{
		{func(d *api.Delta) { d.OldLen = -1 }, fault(api.ErrRange, -1)},
		{func(d *api.Delta) { d.OldLen = top + 1 }, fault(api.ErrRange, -1)},
		{func(d *api.Delta) { d.NewLen = -1 }, fault(api.ErrRange, -1)},
		{func(d *api.Delta) { d.NewLen = math.MinInt }, fault(api.ErrRange, -1)},
		{func(d *api.Delta) { d.NewLen = top + 1 }, fault(api.ErrRange, -1)},
		{func(d *api.Delta) { d.NewLen = math.MaxInt }, fault(api.ErrRange, -1)},
		{func(d *api.Delta) { d.Commands[0].Kind = 0 }, fault(api.ErrKind, 0)},
		{func(d *api.Delta) { d.Commands[3].Kind = 3 }, fault(api.ErrKind, 3)},
		{func(d *api.Delta) { d.Commands[2].Len = 0 }, fault(api.ErrEmpty, 2)},
		{func(d *api.Delta) { d.Commands[1].Data = nil }, fault(api.ErrEmpty, 1)},
		{func(d *api.Delta) { d.Commands[0].From = -1 }, fault(api.ErrRange, 0)},
		{func(d *api.Delta) { d.Commands[0].To = math.MinInt }, fault(api.ErrRange, 0)},
		{func(d *api.Delta) { d.Commands[0].Len = math.MaxInt }, fault(api.ErrRange, 0)},
		{func(d *api.Delta) { d.Commands[1].From = 1 }, fault(api.ErrRange, 1)},
		{func(d *api.Delta) { d.Commands[3].Data = []byte("x") }, fault(api.ErrRange, 3)},
		{func(d *api.Delta) { d.Commands[0].From = 7 }, fault(api.ErrSource, 0)},
		{func(d *api.Delta) { d.Commands[3].From = top - 2 }, fault(api.ErrSource, 3)},
		{func(d *api.Delta) { d.OldLen = 8 }, fault(api.ErrSource, 0)},
		{func(d *api.Delta) { d.NewLen = 8 }, fault(api.ErrLength, 3)},
		{func(d *api.Delta) { d.NewLen = 0 }, fault(api.ErrLength, 0)},
		{func(d *api.Delta) { d.Commands[1].To = top - 2 }, fault(api.ErrLength, 1)},
		{func(d *api.Delta) { d.Commands[3].To = 6 }, fault(api.ErrOverlap, 3)},
		{func(d *api.Delta) { d.NewLen = 10 }, fault(api.ErrGap, 9)},
		{func(d *api.Delta) { d.NewLen = top }, fault(api.ErrGap, 9)},
		{func(d *api.Delta) { d.Commands = d.Commands[1:] }, fault(api.ErrGap, 3)},
		{func(d *api.Delta) { d.Commands = nil }, fault(api.ErrGap, 0)},
	}
}

// changed returns a copy of a delta with one change.
func changed(d api.Delta, change func(d *api.Delta)) api.Delta {
	d = delta.With(d, d.Commands...)
	change(&d)
	return d
}

// P8.1

func TestApplyKnown(t *testing.T) {
	for _, c := range []struct {
		old, want string
		l         []api.Command
	}{
		{"0123456789", "ab0567845", []api.Command{cp(3, 5, 4), lit(0, "ab"), cp(2, 0, 1), cp(7, 4, 2)}},
		{"", "", nil},
		{"abc", "", nil},
		{"", "xyz", []api.Command{lit(0, "xyz")}},
		{"", "xyz", []api.Command{lit(1, "yz"), lit(0, "x")}},
		{"abc", "abc", []api.Command{cp(0, 0, 3)}},
		{"abc", "cab", []api.Command{cp(1, 0, 2), cp(0, 2, 1)}},
		{"abc", "bc", []api.Command{cp(0, 1, 2)}},
		{"a", "aaaa", []api.Command{cp(3, 0, 1), cp(1, 0, 1), cp(0, 0, 1), cp(2, 0, 1)}},
		// what a command reads is not what another one writes
		{"abcdef", "aababc", []api.Command{cp(0, 0, 1), cp(1, 0, 2), cp(3, 0, 3)}},
		{"abcdef", "abcabc", []api.Command{cp(0, 0, 3), cp(3, 0, 3)}},
		{"abcd", "cdab", []api.Command{cp(0, 2, 2), cp(2, 0, 2)}},
		{"abcdefgh", "fghxyabc", []api.Command{cp(0, 5, 3), cp(5, 0, 3), lit(3, "xy")}},
		{"\x00\xff", "\xff\x00\x80", []api.Command{cp(0, 1, 1), cp(1, 0, 1), lit(2, "\x80")}},
	} {
		d := describe(c.old, c.want, c.l...)
		if got := patch.Apply([]byte(c.old), d); string(got) != c.want {
			t.Errorf("Apply(%q, %v) = %q, want %q", c.old, c.l, got, c.want)
		}
		checkDelta(t, c.old, d)
	}
}

func TestApplyNotValid(t *testing.T) {
	old, d := known()
	for i, c := range notValid() {
		if got := patch.Apply([]byte(old), changed(d, c.change)); len(got) != 0 {
			t.Errorf("Apply of the delta %d that is not valid = %q", i, got)
		}
	}
}

func TestApplyOtherLength(t *testing.T) {
	old, d := known()
	for _, other := range []string{"", "0", old[:9], old[:8], old + "a", old + old} {
		if got := patch.Apply([]byte(other), d); len(got) != 0 {
			t.Errorf("Apply(%q) = %q", other, got)
		}
	}
	for _, n := range []int{9, 11, 20, top} {
		d.OldLen = n
		if got := patch.Apply([]byte(old), d); len(got) != 0 {
			t.Errorf("Apply with the OldLen %d = %q", n, got)
		}
	}
}

// Apply does not ask for the digests.
func TestApplyOtherDigests(t *testing.T) {
	old, d := known()
	d.OldHash, d.NewHash = [32]byte{}, [32]byte{}
	if got := patch.Apply([]byte(old), d); string(got) != "ab0567845" {
		t.Errorf("Apply = %q", got)
	}
	if got := patch.Apply([]byte("abcdefghij"), d); string(got) != "abafghief" {
		t.Errorf("Apply for another old file = %q", got)
	}
}

func TestRandomDeltas(t *testing.T) {
	r := rand.New(rand.NewPCG(8, 1))
	for range 20000 {
		old, d := randomDelta(r)
		if f := patch.Verify([]byte(old), d); f != (api.Fault{}) {
			t.Fatalf("Verify(%q, %+v) = %v", old, d, f)
		}
		checkDelta(t, old, d)
	}
}

// TestDamagedDeltas changes one or two things of deltas, which may stay valid.
func TestDamagedDeltas(t *testing.T) {
	r := rand.New(rand.NewPCG(8, 2))
	codes := map[api.Errno]int{}
	for range 50000 {
		old, d := randomDelta(r)
		for range 1 + r.IntN(2) {
			old, d = damaged(r, old, d)
		}
		checkDelta(t, old, d)
		codes[patch.Verify([]byte(old), d).Code]++
	}
	for _, code := range []api.Errno{api.OK, api.ErrGap, api.ErrOverlap, api.ErrSource, api.ErrLength, api.ErrOldLen, api.ErrOldHash, api.ErrNewHash} {
		if codes[code] < 100 {
			t.Errorf("only %d of the deltas lead to %v", codes[code], code)
		}
	}
}

// damaged returns an old file and a delta with one change.
func damaged(r *rand.Rand, old string, d api.Delta) (string, api.Delta) {
	d = delta.With(d, d.Commands...)
	switch n := len(d.Commands); {
	case r.IntN(6) == 0:
		d.OldLen += r.IntN(3) - 1
	case r.IntN(6) == 0:
		d.NewLen += r.IntN(3) - 1
	case r.IntN(6) == 0:
		d.OldHash[r.IntN(32)] ^= 1 << r.IntN(8)
	case r.IntN(6) == 0:
		d.NewHash[r.IntN(32)] ^= 1 << r.IntN(8)
	case r.IntN(6) == 0:
		old = text(r, len(old)+r.IntN(2), "abc")
	case n > 0 && r.IntN(2) == 0:
		c := &d.Commands[r.IntN(n)]
		*[]*int{&c.To, &c.From, &c.Len}[r.IntN(3)] += r.IntN(3) - 1
	case n > 0:
		i := r.IntN(n)
		if data := d.Commands[i].Data; len(data) > 0 {
			data[r.IntN(len(data))]++
		} else {
			d.Commands = slices.Delete(d.Commands, i, i+1)
		}
	}
	return old, d
}

// P8.2

func TestVerifyKnown(t *testing.T) {
	old, d := known()
	same := func(d *api.Delta) {}
	for i, c := range []struct {
		old    string
		change func(d *api.Delta)
		want   api.Fault
	}{
		{old, same, api.Fault{}},
		{old, func(d *api.Delta) { slices.Reverse(d.Commands) }, api.Fault{}},
		{old[:9], same, fault(api.ErrOldLen, 9)},
		{old + "0", same, fault(api.ErrOldLen, 11)},
		{"", same, fault(api.ErrOldLen, 0)},
		{old, func(d *api.Delta) { d.OldLen = 11 }, fault(api.ErrOldLen, 10)},
		{old, func(d *api.Delta) { d.OldLen = 9 }, fault(api.ErrOldLen, 10)},
		{old, func(d *api.Delta) { d.OldLen = top }, fault(api.ErrOldLen, 10)},
		{"0123456788", same, fault(api.ErrOldHash, 0)},
		{"x123456789", same, fault(api.ErrOldHash, 0)},
		{old, func(d *api.Delta) { d.OldHash = d.NewHash }, fault(api.ErrOldHash, 0)},
		{old, func(d *api.Delta) { d.NewHash = d.OldHash }, fault(api.ErrNewHash, 0)},
		{old, func(d *api.Delta) { d.NewHash = [32]byte{} }, fault(api.ErrNewHash, 0)},
		{old, func(d *api.Delta) { d.Commands[2].From = 1 }, fault(api.ErrNewHash, 0)},
		{old, func(d *api.Delta) { d.Commands[1].Data[1] = 'a' }, fault(api.ErrNewHash, 0)},
		{old, func(d *api.Delta) { d.OldHash, d.NewHash = d.NewHash, d.OldHash }, fault(api.ErrOldHash, 0)},
		{old[1:], func(d *api.Delta) { d.OldHash = sha256.Sum256([]byte(old[1:])) }, fault(api.ErrOldLen, 9)},
	} {
		if got := patch.Verify([]byte(c.old), changed(d, c.change)); got != c.want {
			t.Errorf("%d: Verify = %v, want %v", i, got, c.want)
		}
	}
}

func TestVerifyEmpty(t *testing.T) {
	for _, old := range []string{"", "abc"} {
		if f := patch.Verify([]byte(old), describe(old, "")); f != (api.Fault{}) {
			t.Errorf("Verify(%q) = %v", old, f)
		}
	}
	if f := patch.Verify(nil, api.Delta{}); f != fault(api.ErrOldHash, 0) {
		t.Errorf("Verify of a zero delta = %v", f)
	}
	if f := patch.Verify(nil, api.Delta{OldHash: sha256.Sum256(nil)}); f != fault(api.ErrNewHash, 0) {
		t.Errorf("Verify without a digest of the new file = %v", f)
	}
	if f := patch.Verify([]byte("a"), api.Delta{}); f != fault(api.ErrOldLen, 1) {
		t.Errorf("Verify of a zero delta for a byte = %v", f)
	}
}

// TestVerifyEachBit changes each bit of the digests.
func TestVerifyEachBit(t *testing.T) {
	old, d := known()
	for i := range 32 * 8 {
		other := d
		other.NewHash[i/8] ^= 1 << (i % 8)
		if f := patch.Verify([]byte(old), other); f != fault(api.ErrNewHash, 0) {
			t.Errorf("bit %d of NewHash: %v", i, f)
		}
		other.OldHash[i/8] ^= 1 << (i % 8)
		if f := patch.Verify([]byte(old), other); f != fault(api.ErrOldHash, 0) {
			t.Errorf("bit %d of OldHash: %v", i, f)
		}
	}
}

// TestVerifyOrder checks that the fault of the delta precedes that of the length, and so on, for all sets of faults.
func TestVerifyOrder(t *testing.T) {
	old, d := known()
	for i, c := range notValid() {
		for set := range 8 {
			other, file := delta.With(d, d.Commands...), old
			if set&1 > 0 {
				file = "0"
			}
			if set&2 > 0 {
				other.OldHash[0]++
			}
			if set&4 > 0 {
				other.NewHash[31]++
			}
			if got, want := patch.Verify([]byte(file), other), wantVerify(file, other); got != want {
				t.Errorf("set %d: Verify = %v, want %v", set, got, want)
			}
			c.change(&other)
			if got := patch.Verify([]byte(file), other); got != c.want {
				t.Errorf("%d, set %d: Verify = %v, want %v", i, set, got, c.want)
			}
		}
	}
}

// TestVerifyLong verifies a delta whose new file is much longer than the old file and the delta.
func TestVerifyLong(t *testing.T) {
	const n, count = 1 << 16, 512
	old := bytes.Repeat([]byte("0123456789abcdef"), n/16)
	d := api.Delta{OldLen: n, NewLen: n * count, OldHash: sha256.Sum256(old)}
	h := sha256.New()
	for i := range count {
		d.Commands = append(d.Commands, cp(n*(count-1-i), 0, n))
		h.Write(old)
	}
	h.Sum(d.NewHash[:0])
	if f := patch.Verify(old, d); f != (api.Fault{}) {
		t.Errorf("Verify = %v", f)
	}
	d.Commands[0].Len, d.NewLen = n-1, d.NewLen-1
	if f := patch.Verify(old, d); f != fault(api.ErrNewHash, 0) {
		t.Errorf("Verify without the last byte = %v", f)
	}
}

// P8.3

func TestDescribe(t *testing.T) {
	for _, l := range [][]api.Command{
		nil,
		{cp(0, 0, 1)},
		{cp(3, 5, 4), lit(0, "ab"), cp(2, 0, 1), cp(7, 4, 2)},
		{{}, {Kind: -7, To: math.MinInt, From: math.MaxInt, Len: -1, Data: []byte("abc")}, cp(top, top, top), lit(-1, ""), lit(0, "a"), lit(0, "a")},
	} {
		for _, old := range []string{"", "a", "0123456789"} {
			for _, file := range []string{"", "a", "ab0567845"} {
				want := describe(old, file, l...)
				if got := patch.Describe([]byte(old), []byte(file), l...); !delta.Same(got, want) {
					t.Errorf("Describe(%q, %q, %v) = %+v", old, file, l, got)
				}
			}
		}
	}
}

// TestDescribeLengths compares the digests of files of many lengths.
func TestDescribeLengths(t *testing.T) {
	data := bytes.Repeat([]byte("graft"), 60)
	for n := range len(data) {
		old, file := string(data[:n]), string(data[n:])
		if got := patch.Describe(data[:n], data[n:], lit(0, "x")); !delta.Same(got, describe(old, file, lit(0, "x"))) {
			t.Fatalf("Describe(%q, %q) = %+v", old, file, got)
		}
	}
}

// P8.4

func TestByteKnown(t *testing.T) {
	old, d := known()
	const file = "ab0567845"
	for off := range file {
		checkByte(t, old, d, off, file)
	}
	for _, off := range []int{math.MinInt, -top, -2, -1, 9, 10, 1000, top - 1, top, top + 1, math.MaxInt} {
		checkByte(t, old, d, off, file)
	}
	d.OldHash, d.NewHash = [32]byte{}, [32]byte{}
	for off := -1; off < 11; off++ {
		checkByte(t, old, d, off, file)
	}
	for _, off := range []int{math.MinInt, -1, 0, 1, math.MaxInt} {
		checkByte(t, old, describe(old, ""), off, "")
		checkByte(t, "", api.Delta{}, off, "")
	}
}

func TestByteWithoutNewFile(t *testing.T) {
	old, d := known()
	for off := -1; off < 11; off++ {
		for _, c := range notValid() {
			checkByte(t, old, changed(d, c.change), off, "")
		}
		for _, other := range []string{"", old[:9], old + "a"} {
			checkByte(t, other, d, off, "")
		}
		for _, n := range []int{9, 11, top} {
			checkByte(t, old, changed(d, func(d *api.Delta) { d.OldLen = n }), off, "")
		}
	}
}

// A byte 0 is a byte like all others.
func TestByteZero(t *testing.T) {
	d := describe("\x00", "\x00\x00", cp(0, 0, 1), lit(1, "\x00"))
	for off := range 2 {
		checkByte(t, "\x00", d, off, "\x00\x00")
	}
}

// P8.5 and P8.6 are tested in make_test.go.

// Rules of the document

func TestResultsShareNoMemory(t *testing.T) {
	text, d := known()
	old := []byte(text)
	file, other := patch.Apply(old, d), patch.Apply(old, d)
	clear(other[:cap(other)])
	clear(old)
	clear(d.Commands[1].Data)
	if string(file) != "ab0567845" {
		t.Errorf("the new file changed to %q", file)
	}
	_, d = known()
	described := patch.Describe([]byte(text), []byte("ab0567845"), d.Commands...)
	second := patch.Describe([]byte(text), []byte("ab0567845"), described.Commands...)
	clear(d.Commands[1].Data)
	clear(d.Commands)
	clear(second.Commands[1].Data)
	clear(second.Commands)
	if _, want := known(); !delta.Same(described, want) {
		t.Errorf("the delta changed to %+v", described)
	}
}

func TestArgumentsStay(t *testing.T) {
	text, d := known()
	_, want := known()
	old := []byte(text + "beyond")
	file := []byte("ab0567845" + "beyond")
	patch.Apply(old[:10], d)
	patch.Verify(old[:10], d)
	patch.Byte(old[:10], d, 4)
	patch.Describe(old[:10], file[:9], d.Commands...)
	patch.Make(old[:10], file[:9], 2)
	if string(old) != text+"beyond" || string(file) != "ab0567845beyond" || !delta.Same(d, want) {
		t.Errorf("arguments changed to %q, %q, %+v", old, file, d)
	}
}

// Only the bytes within the length of a slice are read.
func TestWithinLength(t *testing.T) {
	old := []byte("abcdef")
	d := describe("abcd", "cdef", cp(0, 2, 4))
	if got := patch.Apply(old[:4], d); len(got) != 0 {
		t.Errorf("Apply = %q", got)
	}
	if f := patch.Verify(old[:4], d); f != fault(api.ErrSource, 0) {
		t.Errorf("Verify = %v", f)
	}
	if got, ok := patch.Byte(old[:4], d, 2); got != 0 || ok {
		t.Errorf("Byte = %d, %v", got, ok)
	}
	if got := patch.Make(old[:4], old[2:5], 1); !delta.Same(got, describe("abcd", "cde", cp(0, 2, 2), lit(2, "e"))) {
		t.Errorf("Make = %+v", got)
	}
	if got := patch.Make(old, old[2:4], 3); !delta.Same(got, describe("abcdef", "cd", lit(0, "cd"))) {
		t.Errorf("Make of a block that ends after the slice = %+v", got)
	}
}

// Functions may be called concurrently.
func TestConcurrentCalls(t *testing.T) {
	text, d := known()
	old, file := []byte(text), []byte("ab0567845")
	made := describe(text, string(file), lit(0, "ab0"), cp(3, 5, 4), cp(7, 4, 2))
	var group sync.WaitGroup
	for range 8 {
		group.Go(func() {
			for range 200 {
				if got := patch.Apply(old, d); !bytes.Equal(got, file) {
					t.Errorf("Apply = %q", got)
				}
				if f := patch.Verify(old, d); f != (api.Fault{}) {
					t.Errorf("Verify = %v", f)
				}
				if got, ok := patch.Byte(old, d, 8); got != '5' || !ok {
					t.Errorf("Byte = %d, %v", got, ok)
				}
				if got := patch.Make(old, file, 2); !delta.Same(got, made) {
					t.Errorf("Make = %+v", got)
				}
			}
		})
	}
	group.Wait()
}
