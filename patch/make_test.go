package patch_test

import (
	"bytes"
	"math"
	"math/rand/v2"
	"slices"
	"strings"
	"testing"

	"graft/api"
	"graft/delta"
	"graft/patch"
)

// wantMake is the list of commands by the definition, with all offsets of old tried for each block.
func wantMake(old, file string, block int) []api.Command {
	var l []api.Command
	literal := ""
	for p := 0; p < len(file); {
		q := -1
		if block >= 1 && len(file)-p >= block {
			q = strings.Index(old, file[p:p+block])
		}
		if q < 0 {
			literal += file[p : p+1]
			p++
			continue
		}
		n := block
		for p+n < len(file) && q+n < len(old) && file[p+n] == old[q+n] {
			n++
		}
		if literal != "" {
			l = append(l, lit(p-len(literal), literal))
			literal = ""
		}
		l = append(l, cp(p, q, n))
		p += n
	}
	if literal != "" {
		l = append(l, lit(len(file)-len(literal), literal))
	}
	return l
}

// checkMake checks what Make returns, and that it leads to the new file.
func checkMake(t *testing.T, old, file string, block int, l []api.Command) {
	t.Helper()
	want := describe(old, file, l...)
	got := patch.Make([]byte(old), []byte(file), block)
	if !delta.Same(got, want) {
		t.Fatalf("Make(%q, %q, %d) = %+v, want %+v", old, file, block, got, want)
	}
	if f := patch.Verify([]byte(old), got); f != (api.Fault{}) {
		t.Fatalf("Verify of Make(%q, %q, %d) = %v", old, file, block, f)
	}
	if applied := patch.Apply([]byte(old), got); string(applied) != file {
		t.Fatalf("Apply of Make(%q, %q, %d) = %q", old, file, block, applied)
	}
}

// P8.5 and P8.6

func TestMakeKnown(t *testing.T) {
	for _, c := range []struct {
		old, file string
		block     int
		want      []api.Command
	}{
		{"abcdef", "xcdefab", 2, []api.Command{lit(0, "x"), cp(1, 2, 4), cp(5, 0, 2)}},
		{"abcdef", "xcdefab", 1, []api.Command{lit(0, "x"), cp(1, 2, 4), cp(5, 0, 2)}},
		{"abcdef", "xcdefab", 3, []api.Command{lit(0, "x"), cp(1, 2, 4), lit(5, "ab")}},
		{"abcdef", "xcdefab", 4, []api.Command{lit(0, "x"), cp(1, 2, 4), lit(5, "ab")}},
		{"abcdef", "xcdefab", 5, []api.Command{lit(0, "xcdefab")}},
		{"", "", 1, nil},
		{"abc", "", 1, nil},
		{"abc", "", 0, nil},
		{"", "abc", 1, []api.Command{lit(0, "abc")}},
		{"abc", "abc", 3, []api.Command{cp(0, 0, 3)}},
		{"abc", "abc", 4, []api.Command{lit(0, "abc")}},
		{"abc", "abcd", 4, []api.Command{lit(0, "abcd")}},
		{"abcd", "abc", 4, []api.Command{lit(0, "abc")}},
		// the smallest offset, although a later one has more bytes in common
		{"aXbaYb", "aYb", 1, []api.Command{cp(0, 0, 1), cp(1, 4, 2)}},
		{"abXabcY", "abcY", 2, []api.Command{cp(0, 0, 2), cp(2, 5, 2)}},
		{"ababab", "abab", 2, []api.Command{cp(0, 0, 4)}},
		// a block that is not there, although longer bytes before and after it are
		{"abcd", "abXcd", 2, []api.Command{cp(0, 0, 2), lit(2, "X"), cp(3, 2, 2)}},
		{"abcdXefgh", "abcdefgh", 5, []api.Command{lit(0, "abcdefgh")}},
		// literal bytes at the beginning, in between and at the end
		{"abc", "XYabcZZabcW", 2, []api.Command{lit(0, "XY"), cp(2, 0, 3), lit(5, "ZZ"), cp(7, 0, 3), lit(10, "W")}},
		// a Copy ends at the end of the old file, and at the end of the new one
		{"abc", "bcbca", 2, []api.Command{cp(0, 1, 2), cp(2, 1, 2), lit(4, "a")}},
		{"abcd", "ab", 2, []api.Command{cp(0, 0, 2)}},
		// fewer bytes than a block are left after a Copy
		{"abcdef", "abcfabcd", 3, []api.Command{cp(0, 0, 3), lit(3, "f"), cp(4, 0, 4)}},
		{"abcdef", "abcfef", 3, []api.Command{cp(0, 0, 3), lit(3, "fef")}},
		{"aaaa", "aaaaaaaaa", 2, []api.Command{cp(0, 0, 4), cp(4, 0, 4), lit(8, "a")}},
		{"aaaa", "aaaaaaaaa", 1, []api.Command{cp(0, 0, 4), cp(4, 0, 4), cp(8, 0, 1)}},
		{"ab", "baab", 1, []api.Command{cp(0, 1, 1), cp(1, 0, 1), cp(2, 0, 2)}},
		{"\x00\xff\x00", "\x00\x00\xff", 2, []api.Command{lit(0, "\x00"), cp(1, 0, 2)}},
	} {
		checkMake(t, c.old, c.file, c.block, c.want)
		if want := wantMake(c.old, c.file, c.block); !delta.Same(describe("", "", c.want...), describe("", "", want...)) {
			t.Errorf("the definition gives %+v for %q, %q, %d", want, c.old, c.file, c.block)
		}
	}
}

func TestMakeExtremeBlocks(t *testing.T) {
	for _, old := range []string{"", "a", "abcdef"} {
		for _, file := range []string{"", "a", "abcdef", "abcdefabcdef"} {
			var all []api.Command
			if file != "" {
				all = []api.Command{lit(0, file)}
			}
			for _, block := range []int{math.MinInt, math.MinInt + 1, -top, -7, -2, -1, 0, 7, 13, top - 1, top, top + 1, math.MaxInt - 1, math.MaxInt} {
				checkMake(t, old, file, block, all)
			}
		}
	}
}

// words returns all strings of up to n bytes of an alphabet.
func words(n int, alphabet string) []string {
	list := []string{""}
	for i := 0; len(list[i]) < n; i++ {
		for _, x := range alphabet {
			list = append(list, list[i]+string(x))
		}
	}
	return list
}

func TestMakeSmallFiles(t *testing.T) {
	for _, c := range []struct {
		alphabet       string
		oldLen, newLen int
	}{{"ab", 6, 6}, {"abc", 4, 4}} {
		for _, old := range words(c.oldLen, c.alphabet) {
			for _, file := range words(c.newLen, c.alphabet) {
				for block := -1; block < 8; block++ {
					checkMake(t, old, file, block, wantMake(old, file, block))
				}
			}
		}
	}
}

// edited returns a text with some changes: other bytes, moved, repeated and removed pieces.
func edited(r *rand.Rand, s, alphabet string) string {
	for range r.IntN(6) {
		i := r.IntN(len(s) + 1)
		k := i + r.IntN(len(s)-i+1)
		j := r.IntN(len(s) + 1)
		switch r.IntN(4) {
		case 0:
			s = s[:j] + s[i:k] + s[j:]
		case 1:
			s = s[:i] + s[k:] + s[i:k]
		case 2:
			s = s[:i] + s[min(k, i+3):]
		case 3:
			s = s[:i] + text(r, r.IntN(4), alphabet) + s[min(len(s), i+1):]
		}
	}
	return s
}

// TestMakeRandom compares with the definition for files of which one is often an edit of the other, and for blocks of every size.
func TestMakeRandom(t *testing.T) {
	r := rand.New(rand.NewPCG(8, 3))
	var every []byte
	for x := range 256 {
		every = append(every, byte(x))
	}
	alphabets := []string{"a", "ab", "ab", "abcd", "abcdefghijklmnop", string(every)}
	copies := 0
	for range 20000 {
		alphabet := alphabets[r.IntN(len(alphabets))]
		old := text(r, r.IntN(80), alphabet)
		file := text(r, r.IntN(80), alphabet)
		if r.IntN(3) > 0 {
			file = edited(r, old, alphabet)
		}
		block := 1 + r.IntN(1+r.IntN(40))
		l := wantMake(old, file, block)
		checkMake(t, old, file, block, l)
		copies += len(slices.DeleteFunc(l, func(c api.Command) bool { return c.Kind != api.Copy }))
	}
	if copies < 20000 {
		t.Errorf("only %d copies", copies)
	}
}

// TestMakeAlmostEqualBlocks has blocks that differ from one of the old file in just one byte, at each place.
func TestMakeAlmostEqualBlocks(t *testing.T) {
	r := rand.New(rand.NewPCG(8, 4))
	for block := 1; block <= 70; block++ {
		for _, piece := range []string{strings.Repeat("a", block), text(r, block, "ab"), text(r, block, "abcdefgh")} {
			for i := range block {
				other := piece[:i] + "z" + piece[i+1:]
				old, file := other+piece, "y"+piece+"x"+other
				checkMake(t, old, file, block, wantMake(old, file, block))
				checkMake(t, other, piece, block, []api.Command{lit(0, piece)})
			}
		}
	}
}

// TestMakeEveryLengthOfBlock has files in which the greatest block that can be copied is known.
func TestMakeEveryLengthOfBlock(t *testing.T) {
	r := rand.New(rand.NewPCG(8, 5))
	for n := 1; n < 300; n++ {
		piece := text(r, n, "abcdefghijklmnopqrstuvwxyz")
		old, file := "12"+piece+"34", "5"+piece+"67"
		copied := []api.Command{lit(0, "5"), cp(1, 2, n), lit(1+n, "67")}
		for _, block := range []int{n, n/2 + 1} {
			checkMake(t, old, file, block, wantMake(old, file, block))
		}
		checkMake(t, old, file, n, copied)
		checkMake(t, old, file, n+1, []api.Command{lit(0, file)})
	}
}

// TestMakeLong would take very long if each block were compared with each one of the old file.
func TestMakeLong(t *testing.T) {
	const n = 1 << 17
	r := rand.New(rand.NewPCG(8, 6))
	random := text(r, n, "abcdefghijklmnop")
	other := text(r, n, "ABCDEFGHIJKLMNOP")
	same := strings.Repeat("a", n)
	for _, block := range []int{1, 7, 64, 1 << 10, n / 2} {
		checkMake(t, random, other, block, []api.Command{lit(0, other)})
		checkMake(t, random, random, block, []api.Command{cp(0, 0, n)})
		checkMake(t, random, other+random, block, []api.Command{lit(0, other), cp(n, 0, n)})
		checkMake(t, same, same+same, block, []api.Command{cp(0, 0, n), cp(n, 0, n)})
	}
	almost := strings.Repeat("a", n/2-1) + "b" + strings.Repeat("a", n/2-1)
	checkMake(t, almost, same, n/2, []api.Command{lit(0, same)})
}

func TestMakeSharesNoMemory(t *testing.T) {
	old, file := []byte("abcdef"), []byte("xyabzzcd")
	want := describe("abcdef", "xyabzzcd", lit(0, "xy"), cp(2, 0, 2), lit(4, "zz"), cp(6, 2, 2))
	d, other := patch.Make(old, file, 2), patch.Make(old, file, 2)
	first := d.Commands[0].Data
	clear(first[len(first):cap(first)])
	clear(other.Commands[0].Data)
	clear(other.Commands)
	clear(old)
	clear(file)
	if !delta.Same(d, want) {
		t.Errorf("the delta changed to %+v", d)
	}
	clear(first[:cap(first)])
	if !bytes.Equal(d.Commands[2].Data, []byte("zz")) {
		t.Errorf("two literals share memory: %+v", d)
	}
}

// The same bytes may be both files.
func TestMakeOfOneSlice(t *testing.T) {
	b := []byte("abcdefgh")
	if d := patch.Make(b, b[2:6], 3); !delta.Same(d, describe("abcdefgh", "cdef", cp(0, 2, 4))) {
		t.Errorf("Make = %+v", d)
	}
}
