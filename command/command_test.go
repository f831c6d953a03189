package command_test

import (
	"bytes"
	"math"
	"math/big"
	"slices"
	"sync"
	"testing"

	"graft/api"
	"graft/command"
)

const top = api.MaxLen

func ext(off, n int) api.Extent { return api.Extent{Off: off, Len: n} }

func lit(to int, text string) api.Command {
	return api.Command{Kind: api.Literal, To: to, Data: []byte(text)}
}

func cp(to, from, n int) api.Command {
	return api.Command{Kind: api.Copy, To: to, From: from, Len: n}
}

// edges are numbers at which a comparison or a sum goes wrong first.
func edges() []int {
	return []int{math.MinInt, math.MinInt + 1, -top - 1, -top, -2, -1, 0, 1, 2, 3, 7, top / 2, top/2 + 1, top - 3, top - 2, top - 1, top, top + 1, top + 2, math.MaxInt - 1, math.MaxInt}
}

// datas are the bytes of commands in tests.
func datas() [][]byte { return [][]byte{nil, {}, {0}, []byte("ab"), []byte("abc")} }

// edgeCommands are all commands of edges, of kinds in use and of others.
func edgeCommands() []api.Command {
	var list []api.Command
	for _, kind := range []int{math.MinInt, -2, -1, 0, api.Copy, api.Literal, 3, 4, 256 + api.Copy, 1<<32 + api.Literal, math.MaxInt} {
		for _, to := range edges() {
			for _, from := range edges() {
				for _, n := range edges() {
					for _, data := range datas() {
						list = append(list, api.Command{Kind: kind, To: to, From: from, Len: n, Data: data})
					}
				}
			}
		}
	}
	return list
}

// validExtent is the definition of a valid extent, by integers of any size.
func validExtent(off, n int) bool {
	end := new(big.Int).Add(big.NewInt(int64(off)), big.NewInt(int64(n)))
	return off >= 0 && n >= 0 && end.Cmp(big.NewInt(top)) <= 0
}

// wantCheck is what the chapter says that Check returns.
func wantCheck(c api.Command) api.Errno {
	var empty, valid bool
	switch c.Kind {
	case api.Copy:
		empty = c.Len == 0
		valid = len(c.Data) == 0 && c.Len >= 1 && validExtent(c.To, c.Len) && validExtent(c.From, c.Len)
	case api.Literal:
		empty = len(c.Data) == 0
		valid = c.From == 0 && c.Len == 0 && len(c.Data) > 0 && validExtent(c.To, len(c.Data))
	default:
		return api.ErrKind
	}
	if empty {
		return api.ErrEmpty
	}
	if !valid {
		return api.ErrRange
	}
	return api.OK
}

// equal compares all fields.
func equal(a, b api.Command) bool {
	return a.Kind == b.Kind && a.To == b.To && a.From == b.From && a.Len == b.Len && bytes.Equal(a.Data, b.Data)
}

// checkEqual checks a command that a call returned.
func checkEqual(t *testing.T, what string, got, want api.Command) {
	t.Helper()
	if !equal(got, want) {
		t.Errorf("%s = %+v, want %+v", what, got, want)
	}
}

// smallCommands are all valid commands with small numbers.
func smallCommands(limit int) []api.Command {
	var list []api.Command
	for to := range limit {
		for n := 1; n <= limit; n++ {
			list = append(list, lit(to, "abcdefghij"[:n]))
			for from := range limit {
				list = append(list, cp(to, from, n))
			}
		}
	}
	return list
}

// P4.1

func TestCopy(t *testing.T) {
	checkEqual(t, "Copy(10, 3, 5)", command.Copy(10, 3, 5), cp(10, 3, 5))
	for _, to := range edges() {
		for _, from := range edges() {
			for _, n := range edges() {
				checkEqual(t, "Copy", command.Copy(to, from, n), cp(to, from, n))
			}
		}
	}
}

func TestLiteral(t *testing.T) {
	for _, c := range []struct {
		parts []string
		all   string
	}{
		{nil, ""},
		{[]string{""}, ""},
		{[]string{"", ""}, ""},
		{[]string{"abc"}, "abc"},
		{[]string{"a", "b", "c"}, "abc"},
		{[]string{"ab", "", "cde"}, "abcde"},
		{[]string{"", "cde", "ab", ""}, "cdeab"},
		{[]string{"ab", "ab"}, "abab"},
		{[]string{"\x00", "\xff\x80"}, "\x00\xff\x80"},
	} {
		var parts [][]byte
		for _, p := range c.parts {
			parts = append(parts, []byte(p))
		}
		for _, to := range edges() {
			checkEqual(t, "Literal", command.Literal(to, parts...), lit(to, c.all))
		}
	}
	checkEqual(t, "Literal of nil parts", command.Literal(4, nil, nil), lit(4, ""))
}

// P4.2

func TestCheck(t *testing.T) {
	ab := []byte("ab")
	for _, c := range []struct {
		c    api.Command
		want api.Errno
	}{
		{cp(10, 3, 5), api.OK},
		{cp(0, 0, 1), api.OK},
		{lit(7, "abc"), api.OK},
		{lit(0, "\x00"), api.OK},
		{api.Command{Kind: api.Copy, Len: 1, Data: []byte{}}, api.OK},
		{cp(0, 0, top), api.OK},
		{cp(top-1, 0, 1), api.OK},
		{cp(0, top-1, 1), api.OK},
		{lit(top-2, "ab"), api.OK},
		{api.Command{}, api.ErrKind},
		{api.Command{Kind: -1, Len: 1}, api.ErrKind},
		{api.Command{Kind: 3, Len: 1}, api.ErrKind},
		{api.Command{Kind: 3, Data: ab}, api.ErrKind},
		{api.Command{Kind: 0, To: -1, Len: -1}, api.ErrKind},
		{cp(1, 1, 0), api.ErrEmpty},
		{cp(-1, -1, 0), api.ErrEmpty},
		{api.Command{Kind: api.Copy, Data: ab}, api.ErrEmpty},
		{lit(1, ""), api.ErrEmpty},
		{lit(-1, ""), api.ErrEmpty},
		{lit(top+1, ""), api.ErrEmpty},
		{api.Command{Kind: api.Literal, Len: 5}, api.ErrEmpty},
		{api.Command{Kind: api.Literal, From: -5, Len: -5}, api.ErrEmpty},
		{cp(5, 5, -1), api.ErrRange},
		{cp(-1, 5, 1), api.ErrRange},
		{cp(5, -1, 1), api.ErrRange},
		{cp(top, 0, 1), api.ErrRange},
		{cp(0, top, 1), api.ErrRange},
		{cp(1, 0, top), api.ErrRange},
		{cp(0, 1, top), api.ErrRange},
		{cp(0, 0, top+1), api.ErrRange},
		{cp(math.MaxInt, 0, math.MaxInt), api.ErrRange},
		{cp(0, math.MaxInt, math.MaxInt), api.ErrRange},
		{api.Command{Kind: api.Copy, Len: 2, Data: ab}, api.ErrRange},
		{lit(-1, "ab"), api.ErrRange},
		{lit(top-1, "ab"), api.ErrRange},
		{lit(math.MaxInt, "ab"), api.ErrRange},
		{api.Command{Kind: api.Literal, Len: 2, Data: ab}, api.ErrRange},
		{api.Command{Kind: api.Literal, Len: -2, Data: ab}, api.ErrRange},
		{api.Command{Kind: api.Literal, From: 2, Data: ab}, api.ErrRange},
		{api.Command{Kind: api.Literal, From: -2, Data: ab}, api.ErrRange},
		{api.Command{Kind: api.Literal, From: 2, Len: -2, Data: ab}, api.ErrRange},
	} {
		if got := command.Check(c.c); got != c.want {
			t.Errorf("Check(%+v) = %d, want %d", c.c, got, c.want)
		}
	}
}

func TestCheckAtEdges(t *testing.T) {
	for _, c := range edgeCommands() {
		if got, want := command.Check(c), wantCheck(c); got != want {
			t.Fatalf("Check(%+v) = %d, want %d", c, got, want)
		}
	}
}

// P4.3

// checkExtents checks the target and the source of a valid command, and whether they have bytes in common.
func checkExtents(t *testing.T, c api.Command, target, source api.Extent, overlaps bool) {
	t.Helper()
	if got := command.Target(c); got != target {
		t.Errorf("Target(%+v) = %v, want %v", c, got, target)
	}
	if got, ok := command.Source(c); got != source || ok != (c.Kind == api.Copy) {
		t.Errorf("Source(%+v) = %v, %v, want %v", c, got, ok, source)
	}
	if got := command.Overlaps(c); got != overlaps {
		t.Errorf("Overlaps(%+v) = %v", c, got)
	}
}

func TestTargetSourceOverlaps(t *testing.T) {
	checkExtents(t, cp(10, 3, 5), ext(10, 5), ext(3, 5), false)
	checkExtents(t, cp(10, 5, 5), ext(10, 5), ext(5, 5), false)
	checkExtents(t, cp(10, 6, 5), ext(10, 5), ext(6, 5), true)
	checkExtents(t, cp(10, 10, 5), ext(10, 5), ext(10, 5), true)
	checkExtents(t, cp(10, 14, 5), ext(10, 5), ext(14, 5), true)
	checkExtents(t, cp(10, 15, 5), ext(10, 5), ext(15, 5), false)
	checkExtents(t, cp(0, 0, 1), ext(0, 1), ext(0, 1), true)
	checkExtents(t, cp(1, 0, 1), ext(1, 1), ext(0, 1), false)
	checkExtents(t, cp(0, 0, top), ext(0, top), ext(0, top), true)
	checkExtents(t, cp(1, 0, top-1), ext(1, top-1), ext(0, top-1), true)
	checkExtents(t, cp(top/2, 0, top/2), ext(top/2, top/2), ext(0, top/2), false)
	checkExtents(t, cp(0, top-1, 1), ext(0, 1), ext(top-1, 1), false)
	checkExtents(t, lit(0, "a"), ext(0, 1), ext(0, 0), false)
	checkExtents(t, lit(7, "abcde"), ext(7, 5), ext(0, 0), false)
	checkExtents(t, lit(top-2, "ab"), ext(top-2, 2), ext(0, 0), false)
}

// TestSmallCommands compares the extents of small commands byte by byte.
func TestSmallCommands(t *testing.T) {
	for _, c := range smallCommands(6) {
		if c.Kind == api.Literal {
			checkExtents(t, c, ext(c.To, len(c.Data)), ext(0, 0), false)
			continue
		}
		common := false
		for i := range c.Len {
			for k := range c.Len {
				common = common || c.To+i == c.From+k
			}
		}
		checkExtents(t, c, ext(c.To, c.Len), ext(c.From, c.Len), common)
	}
}

// P4.4

func TestPart(t *testing.T) {
	none := api.Command{}
	c, l := cp(10, 3, 5), lit(7, "abcde")
	for _, p := range []struct {
		c    api.Command
		e    api.Extent
		want api.Command
	}{
		{c, ext(12, 2), cp(12, 5, 2)},
		{c, ext(10, 5), c},
		{c, ext(10, 1), cp(10, 3, 1)},
		{c, ext(14, 1), cp(14, 7, 1)},
		{c, ext(9, 2), none},
		{c, ext(9, 7), none},
		{c, ext(14, 2), none},
		{c, ext(10, 6), none},
		{c, ext(15, 1), none},
		{c, ext(3, 5), none},
		{c, ext(12, 0), none},
		{c, ext(10, 0), none},
		{c, ext(15, 0), none},
		{c, ext(0, 0), none},
		{c, ext(0, top), none},
		{c, ext(top, 0), none},
		{l, ext(7, 5), l},
		{l, ext(8, 3), lit(8, "bcd")},
		{l, ext(7, 1), lit(7, "a")},
		{l, ext(11, 1), lit(11, "e")},
		{l, ext(6, 2), none},
		{l, ext(11, 2), none},
		{l, ext(12, 1), none},
		{l, ext(0, 1), none},
		{l, ext(9, 0), none},
		{l, ext(0, top), none},
		{cp(0, 0, top), ext(top-1, 1), cp(top-1, top-1, 1)},
		{cp(top-5, 0, 5), ext(top-2, 2), cp(top-2, 3, 2)},
		{cp(0, top-5, 5), ext(3, 2), cp(3, top-2, 2)},
		{lit(top-3, "abc"), ext(top-1, 1), lit(top-1, "c")},
	} {
		checkPart(t, p.c, p.e, p.want)
	}
}

// checkPart checks a part; a zero command is wanted where there is none.
func checkPart(t *testing.T, c api.Command, e api.Extent, want api.Command) {
	t.Helper()
	got, ok := command.Part(c, e)
	if !equal(got, want) || ok != (want.Kind != 0) {
		t.Errorf("Part(%+v, %v) = %+v, %v, want %+v", c, e, got, ok, want)
	}
}

// written returns, for each offset that a valid command writes, the byte of an old file without patterns, or of the literal.
func written(c api.Command) map[int]byte {
	m := map[int]byte{}
	for i := range c.Len {
		m[c.To+i] = byte(37*(c.From+i) + 11)
	}
	for i, b := range c.Data {
		m[c.To+i] = b
	}
	return m
}

// TestPartsWriteTheSame compares the bytes that small commands and all their parts write.
func TestPartsWriteTheSame(t *testing.T) {
	const limit = 5
	for _, c := range smallCommands(limit) {
		all := written(c)
		for off := range 2*limit + 2 {
			for n := range 2*limit + 2 {
				got, ok := command.Part(c, ext(off, n))
				want := n > 0
				for i := range n {
					_, has := all[off+i]
					want = want && has
				}
				if ok != want || !ok && !equal(got, api.Command{}) {
					t.Errorf("Part(%+v, %v) = %+v, %v", c, ext(off, n), got, ok)
				}
				if ok {
					checkWrites(t, c, got, ext(off, n))
				}
			}
		}
	}
}

// checkWrites checks that a part is a valid command of the same kind which writes the same bytes to an extent, and no others.
func checkWrites(t *testing.T, c, part api.Command, e api.Extent) {
	t.Helper()
	all, some := written(c), written(part)
	if wantCheck(part) != api.OK || part.Kind != c.Kind || len(some) != e.Len {
		t.Errorf("Part(%+v, %v) = %+v", c, e, part)
	}
	for i := range e.Len {
		if b, ok := some[e.Off+i]; !ok || b != all[e.Off+i] {
			t.Errorf("Part(%+v, %v) = %+v: offset %d", c, e, part, e.Off+i)
		}
	}
}

// P4.5

func TestSame(t *testing.T) {
	list := []api.Command{
		{},
		cp(10, 3, 5), cp(11, 3, 5), cp(10, 4, 5), cp(10, 3, 6), cp(3, 10, 5), cp(-10, 3, 5), cp(10, -3, 5), cp(10, 3, -5),
		{Kind: api.Copy, To: 10, From: 3, Len: 5, Data: []byte("a")},
		{Kind: api.Literal, To: 10, From: 3, Len: 5},
		{Kind: 0, To: 10, From: 3, Len: 5},
		{Kind: 9, To: 10, From: 3, Len: 5},
		{To: 10}, {From: 3}, {Len: 5}, {Kind: api.Copy}, {Kind: api.Literal},
		lit(7, "ab"), lit(8, "ab"), lit(7, "ac"), lit(7, "bb"), lit(7, "a"), lit(7, "b"), lit(7, "abc"), lit(7, "ab\x00"), lit(7, ""),
		{Kind: math.MaxInt, To: math.MinInt, From: math.MaxInt, Len: math.MinInt},
	}
	for i, a := range list {
		for k, b := range list {
			if got := command.Same(a, b); got != (i == k) {
				t.Errorf("Same(%+v, %+v) = %v", a, b, got)
			}
		}
	}
}

func TestSameWithoutData(t *testing.T) {
	for _, c := range []api.Command{{}, cp(10, 3, 5), lit(7, "")} {
		without, with := c, c
		without.Data, with.Data = nil, make([]byte, 0, 3)
		if !command.Same(without, with) || !command.Same(with, without) || !command.Same(with, with) {
			t.Errorf("empty data of %+v differs from nil", c)
		}
	}
}

func TestSameOfOtherMemory(t *testing.T) {
	long := []byte("abcdef")
	if !command.Same(api.Command{Data: long[:3]}, api.Command{Data: []byte("abc")}) {
		t.Error("Same read beyond the length")
	}
	if !command.Same(lit(3, "abc"), lit(3, "abc")) {
		t.Error("Same depends on the memory")
	}
}

func TestClone(t *testing.T) {
	list := append(smallCommands(3), api.Command{}, lit(3, ""), api.Command{Kind: 9, To: math.MinInt, From: math.MaxInt, Len: -1, Data: []byte("abc")})
	for _, c := range list {
		want := c
		want.Data = slices.Clone(c.Data)
		got := command.Clone(c)
		checkEqual(t, "Clone", got, want)
		spoil(got.Data)
		checkEqual(t, "the command after a change of its clone", c, want)
		got = command.Clone(c)
		spoil(c.Data)
		checkEqual(t, "the clone after a change of its command", got, want)
	}
}

// P1, for commands and extents that are not valid as well

func TestNoPanic(t *testing.T) {
	for _, c := range edgeCommands() {
		command.Target(c)
		command.Source(c)
		command.Overlaps(c)
		command.Clone(c)
		command.Same(c, c)
	}
	for _, to := range edges() {
		for _, data := range datas() {
			for _, off := range edges() {
				for _, n := range edges() {
					command.Part(api.Command{Kind: api.Literal, To: to, Data: data}, ext(off, n))
					command.Part(api.Command{Kind: 3, To: to, Len: n, Data: data}, ext(off, n))
					command.Part(cp(to, n, off), ext(off, n))
					command.Part(cp(to, 0, n), ext(off, n))
				}
			}
		}
	}
}

// The rules on slices and concurrent calls

// spoil changes all bytes of a slice's memory.
func spoil(b []byte) {
	for i := range b[:cap(b)] {
		b[:cap(b)][i] ^= 0xff
	}
}

func TestArgumentsStay(t *testing.T) {
	backing := []byte("0123456789abcdef")
	before := slices.Clone(backing)
	c := api.Command{Kind: api.Literal, To: 4, Data: backing[2:6]}
	checkEqual(t, "Literal", command.Literal(1, backing[2:6], backing[:1]), lit(1, "23450"))
	checkPart(t, c, ext(6, 2), lit(6, "45"))
	checkPart(t, c, ext(6, 3), api.Command{})
	command.Check(c)
	command.Target(c)
	command.Source(c)
	command.Overlaps(c)
	command.Same(c, c)
	command.Clone(c)
	if !bytes.Equal(backing, before) {
		t.Errorf("arguments are now %q", backing)
	}
}

func TestResultsAreNew(t *testing.T) {
	for _, n := range []int{0, 1, 3, 8, 100} {
		backing := bytes.Repeat([]byte("x"), n+30)
		before := slices.Clone(backing)
		data := backing[:n]
		whole := api.Command{Kind: api.Literal, To: 5, Data: data}
		for _, build := range []func() api.Command{
			func() api.Command { return command.Literal(5, data) },
			func() api.Command { return command.Literal(5, nil, data, nil) },
			func() api.Command { return command.Clone(whole) },
			func() api.Command { c, _ := command.Part(whole, ext(5, n)); return c },
			func() api.Command { c, _ := command.Part(whole, ext(6, max(0, n-1))); return c },
		} {
			first, second := build(), build()
			want := slices.Clone(second.Data)
			spoil(first.Data)
			if !bytes.Equal(second.Data, want) || !bytes.Equal(backing, before) {
				t.Errorf("a result of %d bytes shares memory", n)
			}
		}
	}
}

func TestConcurrentCalls(t *testing.T) {
	shared := lit(3, "abcdefgh")
	var group sync.WaitGroup
	for i := range 8 {
		group.Go(func() {
			got, ok := command.Part(shared, ext(3+i, 1))
			if !ok || !command.Same(got, command.Literal(3+i, []byte{byte('a' + i)})) {
				t.Errorf("part %d is %+v, %v", i, got, ok)
			}
			if c := command.Clone(shared); !command.Same(c, shared) || command.Check(c) != api.OK {
				t.Errorf("the clone is %+v", c)
			}
		})
	}
	group.Wait()
}
