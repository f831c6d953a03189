package extent_test

import (
	"math"
	"math/big"
	"slices"
	"sync"
	"testing"

	"graft/api"
	"graft/extent"
)

const (
	top  = api.MaxLen
	most = 1 << 20
)

func ext(off, n int) api.Extent { return api.Extent{Off: off, Len: n} }

// edges are numbers at which a comparison or a sum goes wrong first.
func edges() []int {
	return []int{math.MinInt, math.MinInt + 1, -top - 1, -top, -top + 1, -2, -1, 0, 1, 2, 3, 7, top / 2, top/2 + 1, top - 2, top - 1, top, top + 1, top + 2, math.MaxInt - 1, math.MaxInt}
}

// edgeExtents are all extents of edges.
func edgeExtents() []api.Extent {
	var list []api.Extent
	for _, off := range edges() {
		for _, n := range edges() {
			list = append(list, ext(off, n))
		}
	}
	return list
}

// validEdgeExtents are those extents of edges that are valid.
func validEdgeExtents() []api.Extent {
	return slices.DeleteFunc(edgeExtents(), func(e api.Extent) bool { return !validBig(big.NewInt(int64(e.Off)), e.Len) })
}

// validBig is the definition of a valid extent, for an offset of any size.
func validBig(off *big.Int, n int) bool {
	length := big.NewInt(int64(n))
	end := new(big.Int).Add(off, length)
	return off.Sign() >= 0 && length.Sign() >= 0 && end.Cmp(big.NewInt(top)) <= 0
}

// smallExtents are all valid extents that end at or before limit.
func smallExtents(limit int) []api.Extent {
	var list []api.Extent
	for off := range limit + 1 {
		for n := range limit - off + 1 {
			list = append(list, ext(off, n))
		}
	}
	return list
}

func has(e api.Extent, off int) bool { return off >= e.Off && off-e.Off < e.Len }

// P1.1

func TestValid(t *testing.T) {
	for _, c := range []struct {
		e    api.Extent
		want bool
	}{
		{ext(0, 0), true},
		{ext(5, 7), true},
		{ext(top, 0), true},
		{ext(0, top), true},
		{ext(1, top-1), true},
		{ext(top-1, 1), true},
		{ext(1, top), false},
		{ext(top, 1), false},
		{ext(top+1, 0), false},
		{ext(0, top+1), false},
		{ext(-1, 0), false},
		{ext(-1, 5), false},
		{ext(0, -1), false},
		{ext(5, -1), false},
		{ext(-1, -1), false},
		{ext(top+1, -1), false},
		{ext(-1, top+1), false},
		{ext(math.MaxInt, math.MaxInt), false},
		{ext(math.MaxInt, 1), false},
		{ext(1, math.MaxInt), false},
		{ext(math.MinInt, math.MinInt), false},
		{ext(math.MinInt, 0), false},
		{ext(0, math.MinInt), false},
		{ext(math.MinInt, math.MaxInt), false},
		{ext(math.MaxInt, math.MinInt), false},
	} {
		if got := extent.Valid(c.e); got != c.want {
			t.Errorf("Valid(%v) = %v", c.e, got)
		}
	}
	for _, e := range edgeExtents() {
		if got, want := extent.Valid(e), validBig(big.NewInt(int64(e.Off)), e.Len); got != want {
			t.Errorf("Valid(%v) = %v, want %v", e, got, want)
		}
	}
}

func TestEnd(t *testing.T) {
	for _, c := range []struct {
		e    api.Extent
		want int
	}{{ext(0, 0), 0}, {ext(5, 7), 12}, {ext(5, 0), 5}, {ext(0, 9), 9}, {ext(top, 0), top}, {ext(0, top), top}, {ext(top-3, 3), top}} {
		if got := extent.End(c.e); got != c.want {
			t.Errorf("End(%v) = %d, want %d", c.e, got, c.want)
		}
	}
}

// P1.2

func TestContains(t *testing.T) {
	e := ext(2, 5)
	for _, c := range []struct {
		e    api.Extent
		l    []api.Extent
		want bool
	}{
		{e, nil, true},
		{ext(0, 0), nil, true},
		{e, []api.Extent{e}, true},
		{e, []api.Extent{ext(3, 2)}, true},
		{e, []api.Extent{ext(2, 0)}, true},
		{e, []api.Extent{ext(7, 0)}, true},
		{e, []api.Extent{ext(1, 0)}, false},
		{e, []api.Extent{ext(8, 0)}, false},
		{e, []api.Extent{ext(1, 3)}, false},
		{e, []api.Extent{ext(3, 5)}, false},
		{e, []api.Extent{ext(2, 6)}, false},
		{e, []api.Extent{ext(0, 20)}, false},
		{e, []api.Extent{e, ext(3, 1), ext(4, 3)}, true},
		{e, []api.Extent{ext(1, 1), e, e}, false},
		{e, []api.Extent{e, ext(1, 1), e}, false},
		{e, []api.Extent{e, e, ext(7, 1)}, false},
		{ext(0, top), []api.Extent{ext(top, 0), ext(0, top), ext(0, 0)}, true},
		{ext(0, top-1), []api.Extent{ext(top, 0)}, false},
		{ext(1, top-1), []api.Extent{ext(0, top)}, false},
		{ext(top, 0), []api.Extent{ext(top, 0)}, true},
		{ext(top, 0), []api.Extent{ext(top-1, 1)}, false},
	} {
		if got := extent.Contains(c.e, c.l...); got != c.want {
			t.Errorf("Contains(%v, %v) = %v", c.e, c.l, got)
		}
	}
}

// P1.3

func TestOverlapAndJoin(t *testing.T) {
	none := api.Extent{}
	for _, c := range []struct {
		a, b, common, both api.Extent
		overlap, join      bool
	}{
		{ext(2, 5), ext(4, 9), ext(4, 3), ext(2, 11), true, true},
		{ext(2, 5), ext(2, 5), ext(2, 5), ext(2, 5), true, true},
		{ext(2, 5), ext(3, 2), ext(3, 2), ext(2, 5), true, true},
		{ext(2, 5), ext(6, 1), ext(6, 1), ext(2, 5), true, true},
		{ext(2, 5), ext(7, 2), none, ext(2, 7), false, true},
		{ext(2, 5), ext(8, 2), none, none, false, false},
		{ext(2, 5), ext(4, 0), none, ext(2, 5), false, true},
		{ext(2, 5), ext(2, 0), none, ext(2, 5), false, true},
		{ext(2, 5), ext(7, 0), none, ext(2, 5), false, true},
		{ext(2, 5), ext(1, 0), none, none, false, false},
		{ext(2, 5), ext(8, 0), none, none, false, false},
		{ext(3, 0), ext(3, 0), none, ext(3, 0), false, true},
		{ext(3, 0), ext(4, 0), none, none, false, false},
		{ext(0, 0), ext(0, 0), none, ext(0, 0), false, true},
		{ext(0, top), ext(0, top), ext(0, top), ext(0, top), true, true},
		{ext(0, top), ext(top, 0), none, ext(0, top), false, true},
		{ext(0, top), ext(top-1, 1), ext(top-1, 1), ext(0, top), true, true},
		{ext(0, top/2), ext(top/2, top-top/2), none, ext(0, top), false, true},
		{ext(0, 1), ext(top, 0), none, none, false, false},
	} {
		for _, p := range [][2]api.Extent{{c.a, c.b}, {c.b, c.a}} {
			if got, ok := extent.Overlap(p[0], p[1]); got != c.common || ok != c.overlap {
				t.Errorf("Overlap(%v, %v) = %v, %v", p[0], p[1], got, ok)
			}
			if got, ok := extent.Join(p[0], p[1]); got != c.both || ok != c.join {
				t.Errorf("Join(%v, %v) = %v, %v", p[0], p[1], got, ok)
			}
		}
	}
}

// TestSmallPairs compares all pairs of small extents byte by byte.
func TestSmallPairs(t *testing.T) {
	const limit = 6
	for _, a := range smallExtents(limit) {
		for _, b := range smallExtents(limit) {
			checkOverlap(t, a, b, limit)
			checkJoin(t, a, b)
			inside := b.Off >= a.Off && b.Off+b.Len <= a.Off+a.Len
			if got := extent.Contains(a, b); got != inside {
				t.Errorf("Contains(%v, %v) = %v", a, b, got)
			}
		}
	}
}

func checkOverlap(t *testing.T, a, b api.Extent, limit int) {
	t.Helper()
	got, ok := extent.Overlap(a, b)
	common := 0
	for off := range limit {
		both := has(a, off) && has(b, off)
		if both {
			common++
		}
		if has(got, off) != both {
			t.Errorf("Overlap(%v, %v) = %v: offset %d", a, b, got, off)
		}
	}
	if got.Len != common || ok != (common > 0) || !ok && got != ext(0, 0) {
		t.Errorf("Overlap(%v, %v) = %v, %v", a, b, got, ok)
	}
}

func checkJoin(t *testing.T, a, b api.Extent) {
	t.Helper()
	got, ok := extent.Join(a, b)
	apart := a.Off > b.Off+b.Len || b.Off > a.Off+a.Len
	want := api.Extent{}
	if !apart {
		want.Off = min(a.Off, b.Off)
		want.Len = max(a.Off+a.Len, b.Off+b.Len) - want.Off
	}
	if ok == apart || got != want {
		t.Errorf("Join(%v, %v) = %v, %v", a, b, got, ok)
	}
}

// P1.4

func TestShift(t *testing.T) {
	for _, c := range []struct {
		e    api.Extent
		by   int
		want api.Extent
		ok   bool
	}{
		{ext(2, 5), 0, ext(2, 5), true},
		{ext(2, 5), 3, ext(5, 5), true},
		{ext(2, 5), -2, ext(0, 5), true},
		{ext(2, 5), -3, ext(0, 0), false},
		{ext(2, 5), top - 7, ext(top-5, 5), true},
		{ext(2, 5), top - 6, ext(0, 0), false},
		{ext(0, 0), top, ext(top, 0), true},
		{ext(0, 0), top + 1, ext(0, 0), false},
		{ext(top, 0), -top, ext(0, 0), true},
		{ext(top, 0), -top - 1, ext(0, 0), false},
		{ext(top, 0), 1, ext(0, 0), false},
		{ext(0, top), 0, ext(0, top), true},
		{ext(0, top), 1, ext(0, 0), false},
		{ext(0, top), -1, ext(0, 0), false},
		{ext(top, 0), math.MaxInt, ext(0, 0), false},
		{ext(top, 0), math.MinInt, ext(0, 0), false},
		{ext(0, 0), math.MaxInt, ext(0, 0), false},
		{ext(0, 0), math.MinInt, ext(0, 0), false},
	} {
		if got, ok := extent.Shift(c.e, c.by); got != c.want || ok != c.ok {
			t.Errorf("Shift(%v, %d) = %v, %v", c.e, c.by, got, ok)
		}
	}
}

// TestShiftAtEdges compares with integers of any size.
func TestShiftAtEdges(t *testing.T) {
	for _, e := range validEdgeExtents() {
		for _, by := range edges() {
			off := new(big.Int).Add(big.NewInt(int64(e.Off)), big.NewInt(int64(by)))
			want, valid := api.Extent{}, validBig(off, e.Len)
			if valid {
				want = ext(int(off.Int64()), e.Len)
			}
			if got, ok := extent.Shift(e, by); got != want || ok != valid {
				t.Errorf("Shift(%v, %d) = %v, %v, want %v, %v", e, by, got, ok, want, valid)
			}
		}
	}
}

// P1.5

func TestSplit(t *testing.T) {
	for _, c := range []struct {
		e    api.Extent
		size int
		want []api.Extent
	}{
		{ext(5, 7), 3, []api.Extent{ext(5, 3), ext(8, 3), ext(11, 1)}},
		{ext(5, 6), 3, []api.Extent{ext(5, 3), ext(8, 3)}},
		{ext(5, 6), 4, []api.Extent{ext(5, 4), ext(9, 2)}},
		{ext(5, 3), 1, []api.Extent{ext(5, 1), ext(6, 1), ext(7, 1)}},
		{ext(5, 6), 5, []api.Extent{ext(5, 5), ext(10, 1)}},
		{ext(5, 6), 6, []api.Extent{ext(5, 6)}},
		{ext(5, 6), 7, []api.Extent{ext(5, 6)}},
		{ext(0, 1), 1, []api.Extent{ext(0, 1)}},
		{ext(5, 6), math.MaxInt, []api.Extent{ext(5, 6)}},
		{ext(5, 0), 3, nil},
		{ext(0, 0), 1, nil},
		{ext(top, 0), math.MaxInt, nil},
		{ext(5, 6), 0, nil},
		{ext(5, 6), -1, nil},
		{ext(5, 6), math.MinInt, nil},
		{ext(5, 0), 0, nil},
		{ext(0, top), 1, nil},
		{ext(0, top), top, []api.Extent{ext(0, top)}},
		{ext(0, top), math.MaxInt, []api.Extent{ext(0, top)}},
		{ext(0, top), top - 1, []api.Extent{ext(0, top-1), ext(top-1, 1)}},
		{ext(1, top-1), top - 2, []api.Extent{ext(1, top-2), ext(top-1, 1)}},
		{ext(top-7, 7), 3, []api.Extent{ext(top-7, 3), ext(top-4, 3), ext(top-1, 1)}},
	} {
		if got := extent.Split(c.e, c.size); !slices.Equal(got, c.want) {
			t.Errorf("Split(%v, %d) = %v, want %v", c.e, c.size, got, c.want)
		}
	}
}

func TestSplitIntoMany(t *testing.T) {
	for _, c := range []struct {
		e       api.Extent
		size, n int
	}{
		{ext(0, most-1), 1, most - 1},
		{ext(9, most), 1, most},
		{ext(9, most+1), 1, 0},
		{ext(9, 3*most), 3, most},
		{ext(9, 3*most-1), 3, most},
		{ext(9, 3*most-3), 3, most - 1},
		{ext(9, 3*most+1), 3, 0},
		{ext(0, top), 1 << 42, most},
		{ext(0, top), 1<<42 - 1, 0},
		{ext(top-most, most), 1, most},
	} {
		got := extent.Split(c.e, c.size)
		if len(got) != c.n {
			t.Errorf("Split(%v, %d) has %d extents, want %d", c.e, c.size, len(got), c.n)
		} else if c.n > 0 {
			checkPieces(t, c.e, c.size, got)
		}
	}
}

func TestSplitSmallExtents(t *testing.T) {
	for _, e := range smallExtents(9) {
		for size := 1; size <= 10; size++ {
			checkPieces(t, e, size, extent.Split(e, size))
		}
	}
}

// checkPieces checks that the pieces follow each other from the beginning to the end, all but the last one with the full size.
func checkPieces(t *testing.T, e api.Extent, size int, pieces []api.Extent) {
	t.Helper()
	at, rest := e.Off, e.Len
	for i, p := range pieces {
		if p != ext(at, min(size, rest)) || p.Len < 1 {
			t.Errorf("Split(%v, %d): piece %d is %v", e, size, i, p)
			return
		}
		at, rest = at+p.Len, rest-p.Len
	}
	if rest != 0 {
		t.Errorf("Split(%v, %d) leaves %d bytes", e, size, rest)
	}
}

// P1.6

func TestTotal(t *testing.T) {
	for _, c := range []struct {
		l    []api.Extent
		want int
		ok   bool
	}{
		{nil, 0, true},
		{[]api.Extent{ext(3, 0)}, 0, true},
		{[]api.Extent{ext(3, 4)}, 4, true},
		{[]api.Extent{ext(3, 4), ext(0, 5), ext(9, 0), ext(20, 1)}, 10, true},
		{[]api.Extent{ext(3, 4), ext(3, 4), ext(3, 4)}, 12, true},
		{[]api.Extent{ext(0, top)}, top, true},
		{[]api.Extent{ext(0, top), ext(top, 0)}, top, true},
		{[]api.Extent{ext(0, top-1), ext(5, 1)}, top, true},
		{[]api.Extent{ext(0, top), ext(5, 1)}, 0, false},
		{[]api.Extent{ext(5, 1), ext(0, top)}, 0, false},
		{[]api.Extent{ext(0, top), ext(5, 1), ext(6, 0)}, 0, false},
		{[]api.Extent{ext(0, top), ext(0, top), ext(0, top)}, 0, false},
		{[]api.Extent{ext(0, top), ext(0, top), ext(0, top), ext(0, top), ext(0, 4)}, 0, false},
		{slices.Repeat([]api.Extent{ext(0, top)}, 9), 0, false},
	} {
		if got, ok := extent.Total(c.l...); got != c.want || ok != c.ok {
			t.Errorf("Total(%v) = %d, %v", c.l, got, ok)
		}
	}
}

// P1, for extents that are not valid as well

func TestNoPanic(t *testing.T) {
	list := edgeExtents()
	for _, a := range list {
		extent.Valid(a)
		extent.End(a)
		for _, b := range list {
			extent.Contains(a, b)
			extent.Overlap(a, b)
			extent.Join(a, b)
			extent.Total(a, b, a)
		}
		for _, n := range edges() {
			extent.Shift(a, n)
			extent.Split(a, n)
		}
	}
	extent.Contains(ext(-1, -1), list...)
	extent.Total(list...)
}

// P2 and the rules on slices, numbers and determinism

func TestArgumentsStayAndResultsAreNew(t *testing.T) {
	backing := []api.Extent{ext(0, 4), ext(4, 4), ext(8, top)}
	before := slices.Clone(backing)
	l := backing[:2]
	// The last extent would change the answers if it were read.
	if n, ok := extent.Total(l...); n != 8 || !ok {
		t.Errorf("Total = %d, %v", n, ok)
	}
	if !extent.Contains(ext(0, 8), l...) {
		t.Error("Contains read beyond the length")
	}
	if !slices.Equal(backing, before) {
		t.Errorf("arguments are now %v", backing)
	}
	first := extent.Split(ext(5, 7), 3)
	clear(first[:cap(first)])
	if second := extent.Split(ext(5, 7), 3); !slices.Equal(second, []api.Extent{ext(5, 3), ext(8, 3), ext(11, 1)}) {
		t.Errorf("Split after a change of its last result: %v", second)
	}
}

func TestConcurrentCalls(t *testing.T) {
	var group sync.WaitGroup
	for i := range 8 {
		group.Go(func() {
			e := ext(i, 100+i)
			checkPieces(t, e, 7, extent.Split(e, 7))
			if n, ok := extent.Total(extent.Split(e, 7)...); n != e.Len || !ok {
				t.Errorf("Total of the pieces of %v = %d, %v", e, n, ok)
			}
		})
	}
	group.Wait()
}
