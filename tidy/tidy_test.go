package tidy_test

import (
	"math"
	"math/rand/v2"
	"slices"
	"strings"
	"sync"
	"testing"

	"graft/api"
	"graft/delta"
	"graft/patch"
	"graft/tidy"
)

const top = api.MaxLen

func lit(to int, text string) api.Command {
	return api.Command{Kind: api.Literal, To: to, Data: []byte(text)}
}

func cp(to, from, n int) api.Command {
	return api.Command{Kind: api.Copy, To: to, From: from, Len: n}
}

// of returns a delta with digests that are not zero.
func of(oldLen, newLen int, l ...api.Command) api.Delta {
	return api.Delta{OldLen: oldLen, NewLen: newLen, OldHash: [32]byte{1}, NewHash: [32]byte{31: 2}, Commands: l}
}

func copied(from int) tidy.Origin { return tidy.Origin{Copied: true, From: from} }

func value(x byte) tidy.Origin { return tidy.Origin{Value: x} }

// size is the number of bytes that a valid command writes.
func size(c api.Command) int {
	if c.Kind == api.Copy {
		return c.Len
	}
	return len(c.Data)
}

// writes returns the origins of the bytes that a small command writes, in order.
func writes(c api.Command) []tidy.Origin {
	var list []tidy.Origin
	for i := range size(c) {
		if c.Kind == api.Copy {
			list = append(list, copied(c.From+i))
		} else {
			list = append(list, value(c.Data[i]))
		}
	}
	return list
}

// wantOrigins are the origins of all bytes of a small new file by their definition.
func wantOrigins(d api.Delta) []tidy.Origin {
	list := make([]tidy.Origin, d.NewLen)
	for _, c := range d.Commands {
		copy(list[c.To:], writes(c))
	}
	return list
}

// commandOf is the command that writes the bytes of the given origins, which are those of one command.
func commandOf(to int, l []tidy.Origin) api.Command {
	if l[0].Copied {
		return cp(to, l[0].From, len(l))
	}
	var b strings.Builder
	for _, o := range l {
		b.WriteByte(o.Value)
	}
	return lit(to, b.String())
}

// goesOn reports whether one command can write a byte of the origin b after one of the origin a.
func goesOn(a, b tidy.Origin) bool {
	if a.Copied != b.Copied {
		return false
	}
	return !a.Copied || a.From+1 == b.From
}

// wantCommands are the commands of the canonical form: the longest ones that have the origins.
func wantCommands(l []tidy.Origin) []api.Command {
	var list []api.Command
	begin := 0
	for i := range l {
		if i+1 == len(l) || !goesOn(l[i], l[i+1]) {
			list = append(list, commandOf(begin, l[begin:i+1]))
			begin = i + 1
		}
	}
	return list
}

// randomOrigins returns origins of up to count bytes, in short runs of one kind, a few of which go on where the last one ends.
func randomOrigins(r *rand.Rand, oldLen, count int) []tidy.Origin {
	var list []tidy.Origin
	for len(list) < count {
		if oldLen == 0 || r.IntN(2) == 0 {
			list = append(list, value(byte(r.IntN(3))))
			continue
		}
		from := r.IntN(oldLen)
		for range 1 + r.IntN(5) {
			if from < oldLen {
				list = append(list, copied(from))
			}
			from++
		}
	}
	return list[:r.IntN(len(list)+1)]
}

// divided returns a valid delta with the origins, whose commands are at random places shorter than they could be, and in any order.
func divided(r *rand.Rand, oldLen int, l []tidy.Origin) api.Delta {
	d := of(oldLen, len(l))
	often := 1 + r.IntN(6)
	begin := 0
	for i := range l {
		if i+1 == len(l) || !goesOn(l[i], l[i+1]) || r.IntN(often) == 0 {
			d.Commands = append(d.Commands, commandOf(begin, l[begin:i+1]))
			begin = i + 1
		}
	}
	r.Shuffle(len(d.Commands), func(i, k int) { d.Commands[i], d.Commands[k] = d.Commands[k], d.Commands[i] })
	return d
}

// randomDelta returns a valid delta.
func randomDelta(r *rand.Rand) api.Delta {
	oldLen := r.IntN(12)
	return divided(r, oldLen, randomOrigins(r, oldLen, r.IntN(24)))
}

// known is a valid delta of every kind of command, not in order, and the commands of its canonical form.
func known() (api.Delta, []api.Command) {
	d := of(10, 12, cp(2, 7, 2), lit(7, "bc"), cp(0, 5, 2), cp(4, 9, 1), cp(5, 0, 1), lit(6, "a"), cp(10, 1, 2), lit(9, "d"))
	return d, []api.Command{cp(0, 5, 5), cp(5, 0, 1), lit(6, "abcd"), cp(10, 1, 2)}
}

// checkCommands compares all fields of commands.
func checkCommands(t *testing.T, what string, got, want []api.Command) {
	t.Helper()
	if !slices.EqualFunc(got, want, equal) {
		t.Fatalf("%s = %+v, want %+v", what, got, want)
	}
}

// equal compares all fields.
func equal(x, y api.Command) bool {
	return x.Kind == y.Kind && x.To == y.To && x.From == y.From && x.Len == y.Len && string(x.Data) == string(y.Data)
}

// checkDelta checks a result that has the lengths and digests of d and the commands l.
func checkDelta(t *testing.T, what string, got, d api.Delta, l []api.Command) {
	t.Helper()
	if got.OldLen != d.OldLen || got.NewLen != d.NewLen || got.OldHash != d.OldHash || got.NewHash != d.NewHash {
		t.Fatalf("%s of %+v = %+v", what, d, got)
	}
	checkCommands(t, what, got.Commands, l)
}

// P9.1

// checkOf checks the origin of a byte; there is none if want is nil.
func checkOf(t *testing.T, d api.Delta, off int, want *tidy.Origin) {
	t.Helper()
	got, ok := tidy.Of(d, off)
	if want == nil && (ok || got != tidy.Origin{}) || want != nil && (!ok || got != *want) {
		t.Fatalf("Of(%+v, %d) = %v, %v, want %v", d, off, got, ok, want)
	}
}

func TestOfKnown(t *testing.T) {
	d, _ := known()
	huge := of(top, top, lit(top-2, "ab"), cp(1, 2, top-3), lit(0, "\x00"))
	for _, c := range []struct {
		d    api.Delta
		off  int
		want tidy.Origin
	}{
		{d, 0, copied(5)}, {d, 1, copied(6)}, {d, 2, copied(7)}, {d, 3, copied(8)}, {d, 4, copied(9)}, {d, 5, copied(0)},
		{d, 6, value('a')}, {d, 7, value('b')}, {d, 8, value('c')}, {d, 9, value('d')}, {d, 10, copied(1)}, {d, 11, copied(2)},
		{of(1, 2, cp(1, 0, 1), lit(0, "\x00")), 0, value(0)},
		{of(1, 2, cp(1, 0, 1), lit(0, "\x00")), 1, copied(0)},
		{of(0, 1, lit(0, "\xff")), 0, value(255)},
		{huge, 0, value(0)}, {huge, 1, copied(2)}, {huge, top / 2, copied(top/2 + 1)}, {huge, top - 3, copied(top - 2)},
		{huge, top - 2, value('a')}, {huge, top - 1, value('b')},
		{of(top, top, cp(0, 0, top)), top - 1, copied(top - 1)},
	} {
		checkOf(t, c.d, c.off, &c.want)
	}
}

func TestOfNoByte(t *testing.T) {
	d, _ := known()
	for _, off := range []int{-1, -2, 12, 13, -top, top - 1} {
		checkOf(t, d, off, nil)
	}
	huge := of(top, top, lit(top-2, "ab"), cp(0, 2, top-2))
	for _, d := range []api.Delta{d, huge, {}, of(7, 0), of(0, 2, lit(0, "ab"))} {
		for _, off := range []int{math.MinInt, math.MinInt + 1, -top, -1, top, top + 1, math.MaxInt - 1, math.MaxInt} {
			checkOf(t, d, off, nil)
		}
	}
	checkOf(t, of(7, 0), 0, nil)
	checkOf(t, api.Delta{}, 0, nil)
}

func TestOfEveryByte(t *testing.T) {
	r := rand.New(rand.NewPCG(9, 1))
	for range 3000 {
		d := randomDelta(r)
		for off, o := range wantOrigins(d) {
			checkOf(t, d, off, &o)
		}
		checkOf(t, d, -1, nil)
		checkOf(t, d, d.NewLen, nil)
	}
}

// P9.2

func TestMergeKnown(t *testing.T) {
	for _, c := range []struct{ l, want []api.Command }{
		{nil, nil},
		{[]api.Command{cp(3, 4, 5)}, []api.Command{cp(3, 4, 5)}},
		{[]api.Command{lit(3, "a")}, []api.Command{lit(3, "a")}},
		{[]api.Command{cp(0, 5, 2), cp(2, 7, 3), cp(5, 9, 1)}, []api.Command{cp(0, 5, 5), cp(5, 9, 1)}},
		{[]api.Command{cp(0, 5, 2), cp(2, 7, 3), cp(5, 10, 1)}, []api.Command{cp(0, 5, 6)}},
		{[]api.Command{cp(0, 5, 2), cp(2, 6, 3), cp(5, 9, 1)}, []api.Command{cp(0, 5, 2), cp(2, 6, 4)}},
		{[]api.Command{lit(2, "ab"), lit(4, "c"), lit(5, "def")}, []api.Command{lit(2, "abcdef")}},
		{[]api.Command{lit(2, "ab"), lit(4, "c"), lit(6, "d")}, []api.Command{lit(2, "abc"), lit(6, "d")}},
		// the target begins elsewhere
		{[]api.Command{cp(0, 5, 2), cp(3, 7, 1)}, []api.Command{cp(0, 5, 2), cp(3, 7, 1)}},
		{[]api.Command{cp(0, 5, 2), cp(1, 7, 1)}, []api.Command{cp(0, 5, 2), cp(1, 7, 1)}},
		{[]api.Command{cp(0, 5, 2), cp(0, 7, 2)}, []api.Command{cp(0, 5, 2), cp(0, 7, 2)}},
		{[]api.Command{lit(0, "ab"), lit(3, "c")}, []api.Command{lit(0, "ab"), lit(3, "c")}},
		{[]api.Command{lit(0, "ab"), lit(1, "c")}, []api.Command{lit(0, "ab"), lit(1, "c")}},
		{[]api.Command{lit(0, "ab"), lit(0, "ab")}, []api.Command{lit(0, "ab"), lit(0, "ab")}},
		// the source begins elsewhere
		{[]api.Command{cp(0, 5, 2), cp(2, 8, 1)}, []api.Command{cp(0, 5, 2), cp(2, 8, 1)}},
		{[]api.Command{cp(0, 5, 2), cp(2, 6, 1)}, []api.Command{cp(0, 5, 2), cp(2, 6, 1)}},
		{[]api.Command{cp(0, 5, 2), cp(2, 5, 2)}, []api.Command{cp(0, 5, 2), cp(2, 5, 2)}},
		// in the given order only
		{[]api.Command{cp(2, 7, 3), cp(0, 5, 2)}, []api.Command{cp(2, 7, 3), cp(0, 5, 2)}},
		{[]api.Command{lit(2, "cd"), lit(0, "ab")}, []api.Command{lit(2, "cd"), lit(0, "ab")}},
		{[]api.Command{lit(0, "ab"), lit(3, "d"), lit(2, "c")}, []api.Command{lit(0, "ab"), lit(3, "d"), lit(2, "c")}},
		{[]api.Command{lit(5, "x"), lit(0, "ab"), lit(2, "c"), lit(6, "y")}, []api.Command{lit(5, "x"), lit(0, "abc"), lit(6, "y")}},
		// with the last command only
		{[]api.Command{cp(0, 5, 2), lit(9, "a"), cp(2, 7, 1)}, []api.Command{cp(0, 5, 2), lit(9, "a"), cp(2, 7, 1)}},
		{[]api.Command{lit(0, "a"), cp(1, 1, 1), lit(2, "b")}, []api.Command{lit(0, "a"), cp(1, 1, 1), lit(2, "b")}},
		// kinds differ
		{[]api.Command{cp(0, 0, 2), lit(2, "ab")}, []api.Command{cp(0, 0, 2), lit(2, "ab")}},
		{[]api.Command{lit(0, "ab"), cp(2, 0, 2)}, []api.Command{lit(0, "ab"), cp(2, 0, 2)}},
		{[]api.Command{lit(0, "ab"), cp(2, 2, 2)}, []api.Command{lit(0, "ab"), cp(2, 2, 2)}},
		// at the greatest offsets
		{[]api.Command{cp(0, 0, top-1), cp(top-1, top-1, 1)}, []api.Command{cp(0, 0, top)}},
		{[]api.Command{cp(0, 1, top/2), cp(top/2, top/2+1, top/2)}, []api.Command{cp(0, 1, top/2*2)}},
		{[]api.Command{cp(top-2, 0, 2), cp(0, 2, 1)}, []api.Command{cp(top-2, 0, 2), cp(0, 2, 1)}},
		{[]api.Command{cp(0, top-2, 2), cp(2, 0, 1)}, []api.Command{cp(0, top-2, 2), cp(2, 0, 1)}},
		{[]api.Command{lit(top-3, "ab"), lit(top-1, "c")}, []api.Command{lit(top-3, "abc")}},
	} {
		checkCommands(t, "Merge", tidy.Merge(c.l...), c.want)
	}
}

// wantMerge is what the chapter says that Merge returns.
func wantMerge(l []api.Command) []api.Command {
	var list []api.Command
	for _, c := range l {
		if n := len(list); n > 0 && list[n-1].To+size(list[n-1]) == c.To {
			a, b := writes(list[n-1]), writes(c)
			if goesOn(a[len(a)-1], b[0]) {
				list[n-1] = commandOf(list[n-1].To, slices.Concat(a, b))
				continue
			}
		}
		list = append(list, c)
	}
	return list
}

// TestMergeSmall compares Merge with the definition for all lists of up to four small commands, whose targets may overlap.
func TestMergeSmall(t *testing.T) {
	var from []api.Command
	for to := range 4 {
		for n := 1; n < 3; n++ {
			from = append(from, cp(to, 0, n), cp(to, 1, n), cp(to, 2, n), lit(to, "abcdefgh"[to:to+n]))
		}
	}
	shorter := [][]api.Command{nil}
	for range 4 {
		var lists [][]api.Command
		for _, l := range shorter {
			for _, c := range from {
				longer := append(slices.Clone(l), c)
				checkCommands(t, "Merge", tidy.Merge(longer...), wantMerge(longer))
				lists = append(lists, longer)
			}
		}
		shorter = lists
	}
}

func TestTidyKnown(t *testing.T) {
	d, want := known()
	checkDelta(t, "Tidy", tidy.Tidy(d), d, want)
	for _, c := range []struct {
		d    api.Delta
		want []api.Command
	}{
		{api.Delta{}, nil},
		{of(7, 0), nil},
		{of(9, 4, cp(0, 0, 4)), []api.Command{cp(0, 0, 4)}},
		{of(9, 4, cp(2, 2, 2), cp(0, 0, 2)), []api.Command{cp(0, 0, 4)}},
		{of(9, 4, cp(3, 3, 1), cp(1, 1, 1), cp(2, 2, 1), cp(0, 0, 1)), []api.Command{cp(0, 0, 4)}},
		{of(9, 4, cp(2, 0, 2), cp(0, 2, 2)), []api.Command{cp(0, 2, 2), cp(2, 0, 2)}},
		{of(9, 4, cp(2, 0, 2), cp(0, 0, 2)), []api.Command{cp(0, 0, 2), cp(2, 0, 2)}},
		{of(0, 4, lit(3, "d"), lit(0, "a"), lit(1, "bc")), []api.Command{lit(0, "abcd")}},
		{of(9, 4, lit(3, "d"), lit(0, "a"), cp(1, 4, 2)), []api.Command{lit(0, "a"), cp(1, 4, 2), lit(3, "d")}},
		{of(9, 5, cp(3, 3, 2), lit(2, "x"), cp(0, 0, 2)), []api.Command{cp(0, 0, 2), lit(2, "x"), cp(3, 3, 2)}},
		{of(top, top, cp(top-1, top-1, 1), cp(0, 0, top-1)), []api.Command{cp(0, 0, top)}},
		{of(top, top, lit(top-1, "b"), cp(0, 2, top-2), lit(top-2, "a")), []api.Command{cp(0, 2, top-2), lit(top-2, "ab")}},
	} {
		checkDelta(t, "Tidy", tidy.Tidy(c.d), c.d, c.want)
	}
}

// TestTidyRandom compares the canonical form with the longest commands that have the origins (P9.5 as well).
func TestTidyRandom(t *testing.T) {
	r := rand.New(rand.NewPCG(9, 2))
	merged := 0
	for range 20000 {
		d := randomDelta(r)
		got := tidy.Tidy(d)
		checkDelta(t, "Tidy", got, d, wantCommands(wantOrigins(d)))
		checkDelta(t, "Tidy of a canonical form", tidy.Tidy(got), d, got.Commands)
		if !delta.Valid(got) || !slices.Equal(wantOrigins(got), wantOrigins(d)) || !tidy.Equivalent(d, got) || !tidy.Equivalent(got, d) {
			t.Fatalf("Tidy(%+v) = %+v is not equivalent", d, got)
		}
		merged += len(d.Commands) - len(got.Commands)
	}
	if merged < 20000 {
		t.Errorf("only %d commands were merged", merged)
	}
}

// TestManyCommands would take very long if all bytes were moved for each command that is merged.
func TestManyCommands(t *testing.T) {
	const count = 300000
	text := strings.Repeat("graft!", count/6)
	var literals, copies []api.Command
	for i := range count {
		literals = append(literals, lit(i, text[i:i+1]))
		copies = append(copies, cp(i, i+1, 1))
	}
	slices.Reverse(copies)
	checkCommands(t, "Merge", tidy.Merge(literals...), []api.Command{lit(0, text)})
	checkCommands(t, "Merge", tidy.Merge(copies...), copies)
	checkCommands(t, "Tidy", tidy.Tidy(of(count+1, count, copies...)).Commands, []api.Command{cp(0, 1, count)})
	if !tidy.Equivalent(of(count+1, count, copies...), of(count+1, count, cp(0, 1, count))) {
		t.Error("many copies are not equivalent to one")
	}
	if !tidy.Equivalent(of(0, count, literals...), of(0, count, lit(0, text))) {
		t.Error("many literals are not equivalent to one")
	}
}

// P9.3 and P9.5

// checkEquivalent checks two valid deltas in both directions.
func checkEquivalent(t *testing.T, a, b api.Delta, want bool) {
	t.Helper()
	if tidy.Equivalent(a, b) != want || tidy.Equivalent(b, a) != want {
		t.Fatalf("Equivalent(%+v, %+v) is not %v", a, b, want)
	}
}

// checkPair compares Equivalent with the origins of all bytes and with the canonical forms; both deltas have the same lengths and digests.
func checkPair(t *testing.T, a, b api.Delta) bool {
	t.Helper()
	want := slices.Equal(wantOrigins(a), wantOrigins(b))
	checkEquivalent(t, a, b, want)
	if delta.Same(tidy.Tidy(a), tidy.Tidy(b)) != want {
		t.Fatalf("the canonical forms of %+v and %+v are the same: %v", a, b, !want)
	}
	return want
}

func TestEquivalentKnown(t *testing.T) {
	d, l := known()
	for _, c := range []struct {
		a, b api.Delta
		want bool
	}{
		{d, of(10, 12, l...), true},
		{api.Delta{}, api.Delta{}, true},
		{of(4, 0), of(4, 0), true},
		{of(9, 4, cp(0, 1, 3), cp(3, 4, 1)), of(9, 4, cp(0, 1, 4)), true},
		{of(9, 4, cp(0, 1, 3), cp(3, 4, 1)), of(9, 4, cp(2, 3, 2), cp(0, 1, 2)), true},
		{of(9, 4, cp(0, 1, 3), cp(3, 4, 1)), of(9, 4, cp(0, 1, 3), cp(3, 5, 1)), false},
		{of(9, 4, cp(0, 1, 4)), of(9, 4, cp(0, 2, 4)), false},
		{of(9, 4, cp(0, 1, 4)), of(9, 4, cp(0, 1, 3), lit(3, "a")), false},
		{of(9, 4, cp(0, 1, 4)), of(9, 4, lit(0, "a"), cp(1, 2, 3)), false},
		{of(9, 4, cp(0, 0, 4)), of(9, 4, lit(0, "\x00\x00\x00\x00")), false},
		{of(9, 1, cp(0, 0, 1)), of(9, 1, lit(0, "\x00")), false},
		{of(9, 4, lit(0, "ab"), lit(2, "cd")), of(9, 4, lit(1, "bcd"), lit(0, "a")), true},
		{of(9, 4, lit(0, "abcd")), of(9, 4, lit(0, "abce")), false},
		{of(9, 4, lit(0, "abcd")), of(9, 4, lit(0, "bbcd")), false},
		{of(9, 4, lit(0, "abcd")), of(9, 4, lit(0, "abdc")), false},
		// the lengths
		{of(1, 0), of(0, 0), false},
		{of(9, 4, cp(0, 0, 4)), of(8, 4, cp(0, 0, 4)), false},
		{of(9, 4, lit(0, "abcd")), of(0, 4, lit(0, "abcd")), false},
		{of(9, 4, lit(0, "abcd")), of(9, 3, lit(0, "abc")), false},
		{of(9, 4, cp(0, 0, 4)), of(9, 5, cp(0, 0, 4), lit(4, "a")), false},
		{of(9, 4, cp(0, 0, 4)), of(9, 5, cp(0, 0, 5)), false},
		{of(9, 0), of(9, 1, lit(0, "\x00")), false},
		{of(0, top), of(0, 0), false},
		// very long files
		{of(top, top, cp(0, 0, top)), of(top, top, cp(top/3, top/3, top-top/3), cp(0, 0, top/3)), true},
		{of(top, top, cp(0, 0, top)), of(top, top, cp(top-1, top-2, 1), cp(0, 0, top-1)), false},
		{of(top, top, cp(0, 0, top)), of(top, top, cp(0, 0, top-1), lit(top-1, "a")), false},
		{of(top, top, lit(0, "ab"), cp(2, 0, top-2)), of(top, top, lit(1, "b"), cp(top/2, top/2-2, top-top/2), lit(0, "a"), cp(2, 0, top/2-2)), true},
		{of(top, top, lit(0, "ab"), cp(2, 0, top-2)), of(top, top, lit(1, "b"), cp(top/2, top/2-1, top-top/2), lit(0, "a"), cp(2, 0, top/2-2)), false},
		{of(top, 9, cp(0, 0, 9)), of(top-1, 9, cp(0, 0, 9)), false},
	} {
		checkEquivalent(t, c.a, c.b, c.want)
		checkEquivalent(t, c.a, c.a, true)
		checkEquivalent(t, c.b, c.b, true)
	}
}

// The digests do not matter.
func TestEquivalentDigests(t *testing.T) {
	d, l := known()
	other := d
	other.OldHash, other.NewHash, other.Commands = [32]byte{7}, [32]byte{}, l
	checkEquivalent(t, d, other, true)
	checkEquivalent(t, of(1, 0), api.Delta{OldLen: 1}, true)
}

// divisions returns all valid deltas with the origins whose commands ascend or descend.
func divisions(oldLen int, l []tidy.Origin) []api.Delta {
	var list []api.Delta
	for set := range 1 << max(0, len(l)-1) {
		d := of(oldLen, len(l))
		begin, possible := 0, true
		for i := range l {
			if i+1 == len(l) || set>>i&1 > 0 {
				d.Commands = append(d.Commands, commandOf(begin, l[begin:i+1]))
				begin = i + 1
			} else {
				possible = possible && goesOn(l[i], l[i+1])
			}
		}
		if possible {
			other := d
			other.Commands = slices.Clone(d.Commands)
			slices.Reverse(other.Commands)
			list = append(list, d, other)
		}
	}
	return list
}

// TestEquivalentSmall compares all valid deltas of small files with each other.
func TestEquivalentSmall(t *testing.T) {
	shorter := [][]tidy.Origin{nil}
	for range 3 {
		var lists [][]tidy.Origin
		var all []api.Delta
		for _, l := range shorter {
			for _, o := range []tidy.Origin{copied(0), copied(1), copied(2), value(0), value('a')} {
				longer := append(slices.Clone(l), o)
				lists = append(lists, longer)
				all = append(all, divisions(3, longer)...)
			}
		}
		for _, a := range all {
			for _, b := range all {
				checkPair(t, a, b)
			}
		}
		shorter = lists
	}
}

// TestEquivalentRandom compares longer deltas, with the same origins or with one that is changed.
func TestEquivalentRandom(t *testing.T) {
	r := rand.New(rand.NewPCG(9, 3))
	equivalent := map[bool]int{}
	for range 20000 {
		oldLen := 1 + r.IntN(12)
		l := randomOrigins(r, oldLen, 1+r.IntN(30))
		a := divided(r, oldLen, l)
		equivalent[checkPair(t, a, divided(r, oldLen, l))]++
		if len(l) > 0 {
			i := r.IntN(len(l))
			l[i] = []tidy.Origin{copied(r.IntN(oldLen)), value(byte(r.IntN(3)))}[r.IntN(2)]
			equivalent[checkPair(t, a, divided(r, oldLen, l))]++
		}
	}
	if equivalent[true] < 20000 || equivalent[false] < 10000 {
		t.Errorf("too few pairs: %v", equivalent)
	}
}

// P9.4

// wantLiterals are the commands that the chapter says that Literals returns.
func wantLiterals(old string, l []api.Command, indices []int) []api.Command {
	list := slices.Clone(l)
	for i, c := range list {
		if c.Kind == api.Copy && slices.Contains(indices, i) {
			list[i] = lit(c.To, old[c.From:c.From+c.Len])
		}
	}
	return list
}

// checkLiterals checks Literals for a delta that belongs to old.
func checkLiterals(t *testing.T, old string, d api.Delta, indices ...int) {
	t.Helper()
	got, ok := tidy.Literals([]byte(old), d, indices...)
	if !ok {
		t.Fatalf("Literals(%q, %+v, %v) = false", old, d, indices)
	}
	checkDelta(t, "Literals", got, d, wantLiterals(old, d.Commands, indices))
	if !delta.Valid(got) || string(patch.Apply([]byte(old), got)) != string(patch.Apply([]byte(old), d)) {
		t.Fatalf("Literals(%q, %+v, %v) = %+v has another new file", old, d, indices, got)
	}
}

func TestLiteralsKnown(t *testing.T) {
	const old = "0123456789"
	d, _ := known()
	got, ok := tidy.Literals([]byte(old), d, 0, 6, 3)
	if !ok {
		t.Fatal("Literals = false")
	}
	checkDelta(t, "Literals", got, d, []api.Command{lit(2, "78"), lit(7, "bc"), cp(0, 5, 2), lit(4, "9"), cp(5, 0, 1), lit(6, "a"), lit(10, "12"), lit(9, "d")})
	checkLiterals(t, old, d)
	for i := range d.Commands {
		checkLiterals(t, old, d, i)
		checkLiterals(t, old, d, i, i, i)
		for _, none := range []int{math.MinInt, -top, -2, -1, 8, 9, top, math.MaxInt} {
			checkLiterals(t, old, d, none)
			checkLiterals(t, old, d, none, i, none, i)
		}
	}
	checkLiterals(t, old, d, 7, 6, 5, 4, 3, 2, 1, 0)
	checkLiterals(t, "", api.Delta{}, 0, -1)
	checkLiterals(t, "abc", of(3, 0), 0, 1)
	checkLiterals(t, "\x00\xff", of(2, 2, cp(0, 1, 1), cp(1, 0, 1)), 1, 0)
	checkLiterals(t, "abc", of(3, 9, cp(6, 0, 3), cp(0, 0, 3), cp(3, 0, 3)), 2, 0)
}

// TestLiteralsEverySet replaces each set of commands.
func TestLiteralsEverySet(t *testing.T) {
	const old = "abcdefgh"
	d := of(8, 12, cp(6, 0, 2), lit(0, "xy"), cp(2, 5, 3), cp(8, 0, 4), cp(5, 7, 1))
	for set := range 1 << len(d.Commands) {
		var indices []int
		for i := range d.Commands {
			if set>>i&1 > 0 {
				indices = append(indices, i)
			}
		}
		checkLiterals(t, old, d, indices...)
	}
}

func TestLiteralsRandom(t *testing.T) {
	r := rand.New(rand.NewPCG(9, 4))
	for range 10000 {
		d := randomDelta(r)
		old := make([]byte, d.OldLen)
		for i := range old {
			old[i] = byte(r.IntN(256))
		}
		var indices []int
		for range r.IntN(8) {
			indices = append(indices, r.IntN(len(d.Commands)+4)-2)
		}
		checkLiterals(t, string(old), d, indices...)
	}
}

func TestLiteralsOtherLength(t *testing.T) {
	const old = "0123456789"
	d, _ := known()
	for _, other := range []string{"", "0", old[:9], old[1:], old + "a", old + old} {
		checkNoLiterals(t, other, d)
	}
	for _, n := range []int{11, 20, top} {
		changed := d
		changed.OldLen = n
		checkNoLiterals(t, old, changed)
	}
	checkNoLiterals(t, "", of(1, 0))
	checkNoLiterals(t, "a", of(0, 1, lit(0, "a")))
	checkNoLiterals(t, "a", of(top, top, cp(0, 0, top)))
	// only the bytes within the length of a slice count
	if x, ok := tidy.Literals([]byte(old + "a")[:10], d, 0); !ok || string(x.Commands[0].Data) != "78" {
		t.Errorf("Literals = %+v, %v", x, ok)
	}
	if x, ok := tidy.Literals([]byte(old)[:9], d, 0); ok || !delta.Same(x, api.Delta{}) {
		t.Errorf("Literals = %+v, %v", x, ok)
	}
}

// checkNoLiterals checks that there is no result, whatever the indices are.
func checkNoLiterals(t *testing.T, old string, d api.Delta) {
	t.Helper()
	for _, indices := range [][]int{nil, {0}, {1}, {-1}, {0, 1, 2, 3, 4, 5, 6, 7}} {
		if x, ok := tidy.Literals([]byte(old), d, indices...); ok || !delta.Same(x, api.Delta{}) {
			t.Errorf("Literals(%q, %+v, %v) = %+v, %v", old, d, indices, x, ok)
		}
	}
}

// P1, for deltas and commands that are not valid as well

func TestNoPanic(t *testing.T) {
	edges := []int{math.MinInt, math.MinInt + 1, -top, -1, 0, 1, 2, top - 1, top, top + 1, math.MaxInt - 1, math.MaxInt}
	texts := []string{"", "a", "abc"}
	for _, kind := range []int{math.MinInt, 0, api.Copy, api.Literal, 3} {
		for i, to := range edges {
			for k, n := range edges {
				c := api.Command{Kind: kind, To: to, From: n, Len: n, Data: []byte(texts[(i+k)%3])}
				e := api.Command{Kind: kind, To: to, From: n, Len: n, Data: []byte(texts[(i+k+1)%3])}
				a, b := of(to, n, c, e, cp(to, n, n)), of(to, n, e, c, lit(n, "ab"))
				short := of(2, n, c, e, cp(0, to, n), cp(to, 0, n), cp(0, 1, 2))
				for _, d := range []api.Delta{a, b, short, of(to, n, c), of(to, n, e), of(top, top, c, cp(to, n, n), c)} {
					tidy.Tidy(d)
					tidy.Merge(d.Commands...)
					tidy.Equivalent(a, d)
					tidy.Equivalent(of(to, n, c), d)
					tidy.Equivalent(of(to, n, cp(to, n, 0)), of(to, n, lit(to, "")))
					tidy.Equivalent(of(to, n, lit(to, "")), of(to, n, cp(to, n, 0)))
					tidy.Literals([]byte("ab"), d, 0, 1, 2, 3, 4)
					for _, off := range edges {
						tidy.Of(d, off)
					}
				}
			}
		}
	}
}

// The rules on slices and concurrent calls

// spoil changes all memory that commands reach.
func spoil(l []api.Command) {
	l = l[:cap(l)]
	for i := range l {
		data := l[i].Data[:cap(l[i].Data)]
		for k := range data {
			data[k] = 0xee
		}
		l[i] = api.Command{Kind: -1}
	}
}

// deep returns commands of their own memory.
func deep(l []api.Command) []api.Command {
	list := slices.Clone(l)
	for i := range list {
		list[i].Data = slices.Clone(list[i].Data)
	}
	return list
}

func TestArgumentsStay(t *testing.T) {
	d, l := known()
	d.Commands = append(d.Commands, lit(3, "beyond"))
	before, other := deep(d.Commands), deep(l)
	old := []byte("0123456789beyond")
	indices := []int{6, 0, 0, -1, 3}
	part := of(10, 12, d.Commands[:8]...)
	// the lists and the literals are part of longer slices
	for i := range part.Commands {
		data := append(slices.Clone(part.Commands[i].Data), "beyond"...)
		part.Commands[i].Data = data[:len(data)-6]
	}
	tidy.Tidy(part)
	tidy.Merge(part.Commands...)
	tidy.Merge(l...)
	tidy.Equivalent(part, of(10, 12, l...))
	tidy.Literals(old[:10], part, indices...)
	tidy.Of(part, 3)
	checkCommands(t, "the argument", d.Commands, before)
	checkCommands(t, "the argument", l, other)
	for _, c := range part.Commands {
		if data := c.Data[:len(c.Data)+6]; string(data[len(c.Data):]) != "beyond" {
			t.Errorf("bytes after a literal were changed to %q", data)
		}
	}
	if string(old) != "0123456789beyond" || !slices.Equal(indices, []int{6, 0, 0, -1, 3}) {
		t.Errorf("arguments changed to %q, %v", old, indices)
	}
}

func TestResultsAreNew(t *testing.T) {
	old := []byte("0123456789")
	for name, call := range map[string]func(d api.Delta) []api.Command{
		"Tidy":     func(d api.Delta) []api.Command { return tidy.Tidy(d).Commands },
		"Merge":    func(d api.Delta) []api.Command { return tidy.Merge(d.Commands...) },
		"Literals": func(d api.Delta) []api.Command { x, _ := tidy.Literals(old, d, 0, 6); return x.Commands },
		"none":     func(d api.Delta) []api.Command { x, _ := tidy.Literals(old, d); return x.Commands },
	} {
		d, _ := known()
		d.Commands = deep(d.Commands)
		first, second := call(d), call(d)
		want := deep(first)
		spoil(d.Commands)
		spoil(second)
		clear(old)
		checkCommands(t, name+" after its arguments were changed", first, want)
		copy(old, "0123456789")
		for i := range first {
			data := first[i].Data[:cap(first[i].Data)]
			clear(data)
			for k := range first {
				if k != i && !equal(first[k], want[k]) {
					t.Errorf("%s: the literals %d and %d share memory", name, i, k)
				}
			}
			copy(data, want[i].Data)
		}
	}
}

func TestConcurrentCalls(t *testing.T) {
	d, l := known()
	canonical := of(10, 12, l...)
	old := []byte("0123456789")
	var group sync.WaitGroup
	for range 8 {
		group.Go(func() {
			for range 200 {
				if got := tidy.Tidy(d); !delta.Same(got, canonical) {
					t.Errorf("Tidy = %+v", got)
				}
				if !tidy.Equivalent(d, canonical) {
					t.Error("not equivalent")
				}
				if got, ok := tidy.Literals(old, d, 0); !ok || string(got.Commands[0].Data) != "78" {
					t.Errorf("Literals = %+v, %v", got, ok)
				}
				if got, ok := tidy.Of(d, 3); got != copied(8) || !ok {
					t.Errorf("Of = %v, %v", got, ok)
				}
			}
		})
	}
	group.Wait()
}
