package delta_test

import (
	"math"
	"math/big"
	"math/rand/v2"
	"slices"
	"sync"
	"testing"

	"graft/api"
	"graft/command"
	"graft/delta"
)

const top = api.MaxLen

func lit(to int, text string) api.Command {
	return api.Command{Kind: api.Literal, To: to, Data: []byte(text)}
}

func cp(to, from, n int) api.Command {
	return api.Command{Kind: api.Copy, To: to, From: from, Len: n}
}

// of returns a delta with digests that are not zero.
func of(oldLen, newLen int, l ...api.Command) api.Delta {
	return api.Delta{OldLen: oldLen, NewLen: newLen, OldHash: [32]byte{1}, NewHash: [32]byte{31: 2}, Commands: l}
}

func fault(code api.Errno, at int) api.Fault { return api.Fault{Code: code, At: at} }

// edges are numbers at which a comparison or a sum goes wrong first.
func edges() []int {
	return []int{math.MinInt, math.MinInt + 1, -top - 1, -top, -2, -1, 0, 1, 2, 3, 7, top / 2, top/2 + 1, top - 3, top - 2, top - 1, top, top + 1, top + 2, math.MaxInt - 1, math.MaxInt}
}

// size is the number of bytes that a valid command writes.
func size(c api.Command) int {
	if c.Kind == api.Copy {
		return c.Len
	}
	return len(c.Data)
}

// after reports whether off + n, as an integer of any size, is greater than end.
func after(off, n, end int) bool {
	sum := new(big.Int).Add(big.NewInt(int64(off)), big.NewInt(int64(n)))
	return sum.Cmp(big.NewInt(int64(end))) > 0
}

// wantSingle is the first fault of the lengths, or of one command for itself.
func wantSingle(d api.Delta) api.Fault {
	if d.OldLen < 0 || d.OldLen > top || d.NewLen < 0 || d.NewLen > top {
		return fault(api.ErrRange, -1)
	}
	for i, c := range d.Commands {
		if code := command.Check(c); code != api.OK {
			return fault(code, i)
		}
		if c.Kind == api.Copy && after(c.From, c.Len, d.OldLen) {
			return fault(api.ErrSource, i)
		}
		if after(c.To, size(c), d.NewLen) {
			return fault(api.ErrLength, i)
		}
	}
	return api.Fault{}
}

// writers returns for each byte of a small new file the indices of the commands that write it.
func writers(d api.Delta) [][]int {
	list := make([][]int, d.NewLen)
	for i, c := range d.Commands {
		for k := range size(c) {
			list[c.To+k] = append(list[c.To+k], i)
		}
	}
	return list
}

// wantCheck is what the chapter says that Check returns, byte by byte.
func wantCheck(d api.Delta) api.Fault {
	if f := wantSingle(d); f != (api.Fault{}) {
		return f
	}
	second, free := len(d.Commands), -1
	for off, l := range writers(d) {
		if len(l) > 1 {
			second = min(second, l[1])
		}
		if len(l) == 0 && free < 0 {
			free = off
		}
	}
	if second < len(d.Commands) {
		return fault(api.ErrOverlap, second)
	}
	if free >= 0 {
		return fault(api.ErrGap, free)
	}
	return api.Fault{}
}

// checkFault checks Check and Valid.
func checkFault(t *testing.T, d api.Delta, want api.Fault) {
	t.Helper()
	if got := delta.Check(d); got != want {
		t.Fatalf("Check(%+v) = %v, want %v", d, got, want)
	}
	if got := delta.Valid(d); got != (want == api.Fault{}) {
		t.Fatalf("Valid(%+v) = %v, want the fault %v", d, got, want)
	}
}

// smallCommands are commands with small numbers; some of them are not valid.
func smallCommands(limit int) []api.Command {
	list := []api.Command{{}, {Kind: 3, Len: 1}, cp(0, 0, 0), cp(-1, 0, 1), cp(0, -1, 1), lit(0, ""), lit(-1, "a")}
	for to := range limit {
		for n := 1; n <= limit; n++ {
			list = append(list, lit(to, "abcdef"[:n]), cp(to, 0, n), cp(to, 1, n))
		}
	}
	return list
}

// lists yields all lists of at most three of the commands.
func lists(from []api.Command) func(yield func([]api.Command) bool) {
	return func(yield func([]api.Command) bool) {
		if !yield(nil) {
			return
		}
		for _, a := range from {
			if !yield([]api.Command{a}) {
				return
			}
			for _, b := range from {
				if !yield([]api.Command{a, b}) {
					return
				}
				for _, c := range from {
					if !yield([]api.Command{a, b, c}) {
						return
					}
				}
			}
		}
	}
}

// shuffled returns a valid delta of up to count pieces of small lengths; about half of them are copies.
func shuffled(r *rand.Rand, count int) api.Delta {
	d := of(9, 0)
	for range r.IntN(count + 1) {
		n := 1 + r.IntN(4)
		if r.IntN(2) == 0 {
			d.Commands = append(d.Commands, cp(d.NewLen, r.IntN(10-n), n))
		} else {
			d.Commands = append(d.Commands, lit(d.NewLen, "abcdefg"[n-1:n+n-1]))
		}
		d.NewLen += n
	}
	r.Shuffle(len(d.Commands), func(i, k int) { d.Commands[i], d.Commands[k] = d.Commands[k], d.Commands[i] })
	return d
}

// P5.1

func TestCheckExamples(t *testing.T) {
	copied, literal := cp(2, 0, 4), lit(0, "ab")
	for _, c := range []struct {
		d    api.Delta
		want api.Fault
	}{
		{of(4, 6, copied, literal), api.Fault{}},
		{of(4, 6, literal, copied), api.Fault{}},
		{of(4, 6, copied), fault(api.ErrGap, 0)},
		{of(4, 6, literal), fault(api.ErrGap, 2)},
		{of(4, 7, copied, literal), fault(api.ErrGap, 6)},
		{of(4, 6), fault(api.ErrGap, 0)},
		{api.Delta{}, api.Fault{}},
		{of(7, 0), api.Fault{}},
		{of(top, 0), api.Fault{}},
		{of(0, 2, literal), api.Fault{}},
		{of(0, 1), fault(api.ErrGap, 0)},
		{of(0, top), fault(api.ErrGap, 0)},
		{of(top, top, cp(0, 0, top)), api.Fault{}},
		{of(top, top, cp(1, 0, top-1)), fault(api.ErrGap, 0)},
		{of(top, top, cp(0, 1, top-1)), fault(api.ErrGap, top-1)},
		{of(top, top, lit(top-2, "ab"), cp(0, 2, top-2)), api.Fault{}},
		{of(4, 12, cp(8, 0, 2), cp(0, 0, 4), cp(6, 0, 1)), fault(api.ErrGap, 4)},
		{of(4, 12, cp(8, 0, 2), cp(0, 0, 4), cp(4, 0, 3)), fault(api.ErrGap, 7)},
	} {
		checkFault(t, c.d, c.want)
	}
}

func TestCheckLengths(t *testing.T) {
	for _, n := range []int{-1, -2, -top, math.MinInt, top + 1, top + 2, math.MaxInt} {
		for _, good := range []int{0, 5, top} {
			checkFault(t, of(n, good), fault(api.ErrRange, -1))
			checkFault(t, of(good, n), fault(api.ErrRange, -1))
			checkFault(t, of(good, n, api.Command{}, cp(0, 0, 0)), fault(api.ErrRange, -1))
		}
		checkFault(t, of(n, n, cp(0, 0, 1)), fault(api.ErrRange, -1))
	}
	checkFault(t, of(0, -1), fault(api.ErrRange, -1))
}

// TestCheckOrder checks which of several faults Check returns.
func TestCheckOrder(t *testing.T) {
	good := cp(2, 0, 4)
	for _, c := range []struct {
		d    api.Delta
		want api.Fault
	}{
		{of(4, 6, good, api.Command{Kind: 9}), fault(api.ErrKind, 1)},
		{of(4, 6, good, cp(0, 0, 0)), fault(api.ErrEmpty, 1)},
		{of(4, 6, good, lit(0, "")), fault(api.ErrEmpty, 1)},
		{of(4, 6, good, cp(-1, 0, 1)), fault(api.ErrRange, 1)},
		{of(4, 6, good, cp(0, top, 1)), fault(api.ErrRange, 1)},
		{of(4, 6, good, cp(top, 0, 1)), fault(api.ErrRange, 1)},
		{of(4, 6, good, cp(0, 0, math.MaxInt)), fault(api.ErrRange, 1)},
		{of(4, 6, good, lit(top, "a")), fault(api.ErrRange, 1)},
		// the source, at its limit and before the target
		{of(4, 6, cp(0, 1, 4)), fault(api.ErrSource, 0)},
		{of(4, 6, cp(0, 5, 1)), fault(api.ErrSource, 0)},
		{of(4, 6, cp(5, 4, 1)), fault(api.ErrSource, 0)},
		{of(4, 6, cp(5, 3, 2)), fault(api.ErrSource, 0)},
		{of(0, 6, good), fault(api.ErrSource, 0)},
		{of(3, 5, good), fault(api.ErrSource, 0)},
		{of(4, 6, cp(0, top-1, 1)), fault(api.ErrSource, 0)},
		// the target
		{of(4, 5, good), fault(api.ErrLength, 0)},
		{of(4, 6, cp(5, 0, 2)), fault(api.ErrLength, 0)},
		{of(4, 6, cp(6, 0, 1)), fault(api.ErrLength, 0)},
		{of(4, 6, cp(top-1, 0, 1)), fault(api.ErrLength, 0)},
		{of(4, 6, lit(5, "ab")), fault(api.ErrLength, 0)},
		{of(0, 0, lit(0, "a")), fault(api.ErrLength, 0)},
		{of(0, 6, lit(top-1, "a")), fault(api.ErrLength, 0)},
		// the first command with a fault, whatever the fault is
		{of(4, 6, cp(5, 0, 2), api.Command{}), fault(api.ErrLength, 0)},
		{of(4, 6, cp(0, 4, 1), cp(0, 0, 0)), fault(api.ErrSource, 0)},
		{of(4, 6, good, cp(5, 0, 2), cp(0, 4, 1)), fault(api.ErrLength, 1)},
		// faults of single commands before overlaps, and these before gaps
		{of(4, 6, good, good, cp(0, 4, 1)), fault(api.ErrSource, 2)},
		{of(4, 6, good, good, lit(6, "a")), fault(api.ErrLength, 2)},
		{of(4, 6, good, good, api.Command{}), fault(api.ErrKind, 2)},
		{of(4, 6, good, good), fault(api.ErrOverlap, 1)},
		{of(4, 6, good, lit(5, "a")), fault(api.ErrOverlap, 1)},
		{of(4, 6, good, lit(2, "a")), fault(api.ErrOverlap, 1)},
		{of(4, 6, lit(3, "a"), good), fault(api.ErrOverlap, 1)},
		{of(4, 6, lit(1, "ab"), lit(0, "a"), good), fault(api.ErrOverlap, 2)},
		// the smallest index, not the smallest offset
		{of(4, 6, good, lit(0, "a"), lit(5, "b"), lit(0, "c")), fault(api.ErrOverlap, 2)},
		{of(4, 6, lit(0, "a"), good, lit(0, "c"), lit(5, "b")), fault(api.ErrOverlap, 2)},
		{of(4, 9, lit(8, "a"), lit(4, "a"), lit(0, "a"), lit(2, "abcdefg")), fault(api.ErrOverlap, 3)},
		{of(4, 9, lit(0, "abcdefghi"), lit(8, "a"), lit(4, "a"), lit(0, "a")), fault(api.ErrOverlap, 1)},
	} {
		checkFault(t, c.d, c.want)
	}
}

// TestCheckSmall compares Check with the definition for all small lists of commands.
func TestCheckSmall(t *testing.T) {
	for _, lengths := range [][2]int{{0, 0}, {0, 3}, {1, 2}, {2, 3}, {3, 2}, {4, 3}} {
		for l := range lists(smallCommands(3)) {
			d := of(lengths[0], lengths[1], l...)
			checkFault(t, d, wantCheck(d))
		}
	}
}

// TestCheckLonger compares Check with the definition for longer lists, at first valid and then with small changes.
func TestCheckLonger(t *testing.T) {
	r := rand.New(rand.NewPCG(5, 1))
	for range 30000 {
		d := shuffled(r, 12)
		checkFault(t, d, api.Fault{})
		for range 1 + r.IntN(3) {
			d = changed(r, d)
			checkFault(t, d, wantCheck(d))
		}
	}
}

// changed returns a delta with one change that may make it invalid.
func changed(r *rand.Rand, d api.Delta) api.Delta {
	l := slices.Clone(d.Commands)
	i := r.IntN(len(l) + 1)
	switch {
	case r.IntN(8) == 0:
		d.NewLen += r.IntN(2)
	case i == len(l) || r.IntN(4) == 0:
		l = slices.Insert(l, i, cp(r.IntN(d.NewLen+1), 0, 1+r.IntN(2)))
	case r.IntN(4) == 0:
		l = slices.Delete(l, i, i+1)
	default:
		l[i].To += r.IntN(5) - 2
	}
	d.Commands = l
	return d
}

// TestCheckScaled repeats the comparison for copies whose offsets and lengths are multiples of a great number.
func TestCheckScaled(t *testing.T) {
	const limit = 4
	var small []api.Command
	for to := range limit {
		for n := 1; n <= limit; n++ {
			small = append(small, cp(to, 0, n), cp(to, 2, n))
		}
	}
	for _, unit := range []int{1 << 40, top / (2*limit - 1)} { // the last target ends at 2 * limit - 1
		for l := range lists(small) {
			want := wantCheck(of(limit, limit, l...))
			if want.Code == api.ErrGap {
				want.At *= unit
			}
			var scaled []api.Command
			for _, c := range l {
				scaled = append(scaled, cp(c.To*unit, c.From*unit, c.Len*unit))
			}
			checkFault(t, of(limit*unit, limit*unit, scaled...), want)
		}
	}
}

// TestCheckAtEdges compares the faults of single commands with the definition at extreme numbers.
func TestCheckAtEdges(t *testing.T) {
	lengths := []int{math.MinInt, -1, 0, 1, 7, top - 1, top, top + 1, math.MaxInt}
	for _, oldLen := range lengths {
		for _, newLen := range lengths {
			for _, to := range edges() {
				checkSingle(t, of(oldLen, newLen, lit(to, "ab")))
				for _, from := range edges() {
					for _, n := range edges() {
						checkSingle(t, of(oldLen, newLen, cp(to, from, n)))
					}
				}
			}
		}
	}
}

// checkSingle checks the fault of a delta with one command.
func checkSingle(t *testing.T, d api.Delta) {
	t.Helper()
	want := wantSingle(d)
	if want == (api.Fault{}) {
		c := d.Commands[0]
		switch {
		case c.To > 0:
			want = fault(api.ErrGap, 0)
		case size(c) < d.NewLen:
			want = fault(api.ErrGap, size(c))
		}
	}
	checkFault(t, d, want)
}

// TestCheckManyCommands checks that a long list is checked in reasonable time, in whatever order it is.
func TestCheckManyCommands(t *testing.T) {
	const count = 200000
	l := make([]api.Command, count)
	for i := range l {
		l[i] = cp(i*3, i, 3)
	}
	for range 2 {
		d := of(count+2, count*3, l...)
		checkFault(t, d, api.Fault{})
		checkFault(t, of(count+2, count*3, l[:count/2]...), fault(api.ErrGap, gapOf(l[:count/2])))
		checkFault(t, of(count+2, count*3, append(slices.Clone(l), l[0], l[9])...), fault(api.ErrOverlap, count))
		if s := delta.Sort(d); s.Commands[0].To != 0 || s.Commands[count-1].To != (count-1)*3 {
			t.Error("the list is not sorted")
		}
		slices.Reverse(l)
	}
}

// gapOf is the gap of one half of the commands in TestCheckManyCommands.
func gapOf(l []api.Command) int {
	if l[0].To > 0 {
		return 0
	}
	return len(l) * 3
}

// P5.2

func TestFind(t *testing.T) {
	big := of(top, top, lit(top-2, "ab"), cp(1, 2, top-3), lit(0, "c"))
	for _, c := range []struct {
		d         api.Delta
		off, want int
	}{
		{of(4, 6, cp(2, 0, 4), lit(0, "ab")), 0, 1},
		{of(4, 6, cp(2, 0, 4), lit(0, "ab")), 1, 1},
		{of(4, 6, cp(2, 0, 4), lit(0, "ab")), 2, 0},
		{of(4, 6, cp(2, 0, 4), lit(0, "ab")), 5, 0},
		{of(4, 6, cp(2, 0, 4), lit(0, "ab")), 6, -1},
		{of(4, 6, cp(2, 0, 4), lit(0, "ab")), -1, -1},
		{of(4, 6, lit(0, "ab"), cp(2, 0, 4)), 1, 0},
		{of(9, 0), 0, -1},
		{api.Delta{}, 0, -1},
		{big, 0, 2}, {big, 1, 1}, {big, 2, 1}, {big, top / 2, 1}, {big, top - 3, 1}, {big, top - 2, 0}, {big, top - 1, 0},
		{of(top, top, cp(0, 0, top)), top - 1, 0},
	} {
		if got := delta.Find(c.d, c.off); got != c.want {
			t.Errorf("Find(%+v, %d) = %d, want %d", c.d, c.off, got, c.want)
		}
	}
	for _, d := range []api.Delta{big, {}, of(9, 0), of(0, 2, lit(0, "ab"))} {
		for _, off := range []int{math.MinInt, math.MinInt + 1, -top, -2, -1, top, top + 1, math.MaxInt - 1, math.MaxInt} {
			if got := delta.Find(d, off); got != -1 {
				t.Errorf("Find(%+v, %d) = %d", d, off, got)
			}
		}
	}
}

// TestFindEveryByte compares Find with the bytes of each target.
func TestFindEveryByte(t *testing.T) {
	r := rand.New(rand.NewPCG(5, 2))
	for range 3000 {
		d := shuffled(r, 10)
		for off, l := range writers(d) {
			if got := delta.Find(d, off); len(l) != 1 || got != l[0] {
				t.Fatalf("Find(%+v, %d) = %d, want %v", d, off, got, l)
			}
		}
		for _, off := range []int{-1, d.NewLen, d.NewLen + 1} {
			if got := delta.Find(d, off); got != -1 {
				t.Fatalf("Find(%+v, %d) = %d", d, off, got)
			}
		}
	}
}

// P5.3

func TestTotals(t *testing.T) {
	for _, c := range []struct {
		d               api.Delta
		copied, literal int
	}{
		{api.Delta{}, 0, 0},
		{of(7, 0), 0, 0},
		{of(4, 6, cp(2, 0, 4), lit(0, "ab")), 4, 2},
		{of(4, 4, cp(0, 0, 4)), 4, 0},
		{of(4, 8, cp(0, 0, 4), cp(4, 0, 4)), 8, 0},
		{of(0, 5, lit(3, "ab"), lit(0, "abc")), 0, 5},
		{of(top, top, cp(0, 0, top)), top, 0},
		{of(top, top, lit(top-3, "abc"), cp(0, 1, top-3)), top - 3, 3},
	} {
		if copied, literal := delta.Totals(c.d); copied != c.copied || literal != c.literal {
			t.Errorf("Totals(%+v) = %d, %d", c.d, copied, literal)
		}
	}
}

func TestTotalsSum(t *testing.T) {
	r := rand.New(rand.NewPCG(5, 3))
	for range 3000 {
		d := shuffled(r, 10)
		want := 0
		for _, c := range d.Commands {
			want += len(c.Data)
		}
		if copied, literal := delta.Totals(d); literal != want || copied+literal != d.NewLen {
			t.Fatalf("Totals(%+v) = %d, %d", d, copied, literal)
		}
	}
}

// P5.4

// equalLists compares all fields of commands.
func equalLists(a, b []api.Command) bool {
	return slices.EqualFunc(a, b, func(x, y api.Command) bool {
		return x.Kind == y.Kind && x.To == y.To && x.From == y.From && x.Len == y.Len && string(x.Data) == string(y.Data)
	})
}

// checkDelta checks a result that has the lengths and digests of d and the commands l.
func checkDelta(t *testing.T, what string, got, d api.Delta, l []api.Command) {
	t.Helper()
	if got.OldLen != d.OldLen || got.NewLen != d.NewLen || got.OldHash != d.OldHash || got.NewHash != d.NewHash || !equalLists(got.Commands, l) {
		t.Fatalf("%s of %+v = %+v, want the commands %+v", what, d, got, l)
	}
}

func TestSort(t *testing.T) {
	a, b, c, last := lit(0, "ab"), cp(2, 8, 2), cp(4, 2, 3), lit(7, "xyz")
	checkDelta(t, "Sort", delta.Sort(of(10, 10, c, a, b, last)), of(10, 10), []api.Command{a, b, c, last})
	checkDelta(t, "Sort", delta.Sort(of(10, 10, last, c, b, a)), of(10, 10), []api.Command{a, b, c, last})
	checkDelta(t, "Sort", delta.Sort(of(10, 10, a, b, c, last)), of(10, 10), []api.Command{a, b, c, last})
	checkDelta(t, "Sort", delta.Sort(of(3, 0)), of(3, 0), nil)
	checkDelta(t, "Sort", delta.Sort(api.Delta{}), api.Delta{}, nil)
	high, low := lit(top-2, "ab"), cp(0, 0, top-2)
	checkDelta(t, "Sort", delta.Sort(of(top, top, high, low)), of(top, top), []api.Command{low, high})
}

// TestSortShuffled compares Sort with the list of the commands in the order of the bytes.
func TestSortShuffled(t *testing.T) {
	r := rand.New(rand.NewPCG(5, 4))
	for range 3000 {
		d := shuffled(r, 20)
		var want []api.Command
		for off, l := range writers(d) {
			if d.Commands[l[0]].To == off {
				want = append(want, d.Commands[l[0]])
			}
		}
		checkDelta(t, "Sort", delta.Sort(d), d, want)
	}
}

func TestWith(t *testing.T) {
	d := of(10, 10, lit(0, "ab"), cp(2, 8, 2))
	odd := []api.Command{cp(9, 9, 9), {}, lit(-3, "q"), {Kind: 7, To: math.MinInt, From: math.MaxInt, Len: -1, Data: []byte("abc")}, lit(-3, "q"), cp(0, 0, 1)}
	for _, from := range []api.Delta{d, {}, of(-1, math.MaxInt, cp(1, 1, 1)), of(math.MinInt, -1)} {
		for n := range len(odd) + 1 {
			checkDelta(t, "With", delta.With(from, odd[:n]...), from, odd[:n])
		}
	}
	checkDelta(t, "With", delta.With(d), of(10, 10), nil)
	if len(d.Commands) != 2 || !equalLists(d.Commands, []api.Command{lit(0, "ab"), cp(2, 8, 2)}) {
		t.Errorf("With changed its argument to %+v", d)
	}
}

func TestSame(t *testing.T) {
	base := of(10, 12, lit(0, "ab"), cp(2, 8, 2))
	list := []api.Delta{base, {}, of(10, 12), of(11, 12, base.Commands...), of(10, 11, base.Commands...), of(12, 10, base.Commands...), of(-10, 12, base.Commands...)}
	for i := range 32 {
		d, e := base, base
		d.OldHash[i] += 128
		e.NewHash[i] += 128
		list = append(list, d, e)
	}
	exchanged := base
	exchanged.OldHash, exchanged.NewHash = base.NewHash, base.OldHash
	list = append(list, exchanged)
	for _, l := range [][]api.Command{
		{lit(0, "ab")}, {cp(2, 8, 2)}, {cp(2, 8, 2), lit(0, "ab")},
		{lit(0, "ab"), cp(2, 8, 2), {}}, {lit(0, "ab"), cp(2, 8, 2), cp(2, 8, 2)}, {{}, lit(0, "ab"), cp(2, 8, 2)},
		{lit(0, "ac"), cp(2, 8, 2)}, {lit(0, "abc"), cp(2, 8, 2)}, {lit(1, "ab"), cp(2, 8, 2)},
		{lit(0, "ab"), cp(3, 8, 2)}, {lit(0, "ab"), cp(2, 7, 2)}, {lit(0, "ab"), cp(2, 8, 1)}, {lit(0, "ab"), {Kind: 3, To: 2, From: 8, Len: 2}},
		{lit(0, "ab"), {Kind: api.Copy, To: 2, From: 8, Len: 2, Data: []byte("x")}}, {{}},
	} {
		list = append(list, of(10, 12, l...))
	}
	for i, a := range list {
		for k, b := range list {
			if got := delta.Same(a, b); got != (i == k) {
				t.Errorf("Same(%+v, %+v) = %v", a, b, got)
			}
		}
	}
}

func TestSameWithoutData(t *testing.T) {
	empty := cp(2, 8, 2)
	empty.Data = []byte{}
	if !delta.Same(of(10, 12, empty), of(10, 12, cp(2, 8, 2))) {
		t.Error("empty data differs from nil")
	}
	without, with := of(10, 12), of(10, 12)
	with.Commands = make([]api.Command, 0, 2)
	if !delta.Same(without, with) || !delta.Same(with, without) {
		t.Error("an empty list differs from nil")
	}
	if !delta.Same(of(1, 2, lit(0, "ab")), of(1, 2, lit(0, "ab"))) {
		t.Error("Same depends on the memory")
	}
}

// P1, for deltas that are not valid as well

func TestNoPanic(t *testing.T) {
	for _, kind := range []int{math.MinInt, 0, api.Copy, api.Literal, 3} {
		for _, to := range edges() {
			for _, n := range edges() {
				c := api.Command{Kind: kind, To: to, From: n, Len: n, Data: []byte("ab")}
				for _, d := range []api.Delta{of(to, n, c), of(top, top, c, cp(to, n, n), c), of(-1, -1, cp(n, to, to), c)} {
					delta.Check(d)
					delta.Totals(d)
					delta.Sort(d)
					for _, off := range edges() {
						delta.Find(d, off)
					}
				}
			}
		}
	}
}

// The rules on slices and concurrent calls

// spoil changes all memory that a delta reaches.
func spoil(d api.Delta) {
	l := d.Commands[:cap(d.Commands)]
	for i := range l {
		data := l[i].Data[:cap(l[i].Data)]
		for k := range data {
			data[k] ^= 0xff
		}
		l[i] = api.Command{Kind: -1}
	}
}

// deep returns a delta of its own memory.
func deep(d api.Delta) api.Delta {
	var l []api.Command
	for _, c := range d.Commands {
		c.Data = slices.Clone(c.Data)
		l = append(l, c)
	}
	d.Commands = l
	return d
}

func TestArgumentsStay(t *testing.T) {
	backing := []api.Command{cp(0, 0, 0), lit(4, "cd"), cp(2, 0, 2), lit(0, "ab"), {Kind: 7}}
	whole := of(2, 6, backing...)
	before := deep(whole)
	d := of(2, 6, backing[1:4]...)
	checkFault(t, d, api.Fault{})
	checkFault(t, whole, fault(api.ErrEmpty, 0))
	if got := delta.Find(d, 6); got != -1 {
		t.Errorf("Find = %d", got)
	}
	delta.Totals(d)
	delta.Sort(d)
	delta.With(d, backing[2:]...)
	delta.Same(d, whole)
	checkDelta(t, "the argument", whole, before, before.Commands)
}

func TestResultsAreNew(t *testing.T) {
	for _, count := range []int{0, 1, 2, 3, 5, 8, 100} {
		backing := make([]api.Command, count+5)
		for i := range backing {
			backing[i] = lit(2*(count-i), "abcdef"[:2])
		}
		d := of(0, 2*count+2, backing[:count]...)
		before := deep(of(0, 2*count+2, backing...))
		for _, build := range []func() api.Delta{
			func() api.Delta { return delta.Sort(d) },
			func() api.Delta { return delta.With(d, d.Commands...) },
			func() api.Delta { return delta.With(api.Delta{}, d.Commands...) },
			func() api.Delta { return delta.With(d) },
		} {
			first, second := build(), build()
			want := deep(second)
			spoil(first)
			checkDelta(t, "the second result", second, want, want.Commands)
			checkDelta(t, "the argument", of(0, 2*count+2, backing...), before, before.Commands)
		}
	}
}

// TestPartsOfResultsAreNew checks that commands which came from the same memory do not share it in a result.
func TestPartsOfResultsAreNew(t *testing.T) {
	a, b := lit(0, "abc"), lit(3, "abc")
	b.Data = a.Data
	for _, d := range []api.Delta{delta.With(of(0, 6), a, b), delta.Sort(of(0, 6, b, a))} {
		spoil(of(0, 0, d.Commands[0]))
		if !equalLists(d.Commands[1:], []api.Command{lit(3, "abc")}) {
			t.Errorf("the second command is %+v after a change of the first one", d.Commands[1])
		}
	}
}

func TestConcurrentCalls(t *testing.T) {
	d := of(4, 10, lit(8, "xy"), cp(4, 0, 4), lit(0, "abcd"))
	var group sync.WaitGroup
	for range 8 {
		group.Go(func() {
			s := delta.Sort(d)
			if !delta.Valid(d) || !delta.Valid(s) || !delta.Same(s, delta.With(d, d.Commands[2], d.Commands[1], d.Commands[0])) {
				t.Errorf("the sorted delta is %+v", s)
			}
			if copied, literal := delta.Totals(s); copied != 4 || literal != 6 || delta.Find(d, 9) != 0 {
				t.Errorf("the totals are %d and %d", copied, literal)
			}
		})
	}
	group.Wait()
}
