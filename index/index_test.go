package index_test

import (
	"math"
	"math/big"
	"math/rand/v2"
	"slices"
	"sync"
	"testing"

	"graft/api"
	"graft/index"
)

const top = api.MaxLen

func ext(off, n int) api.Extent { return api.Extent{Off: off, Len: n} }

// edges are numbers at which a comparison or a sum goes wrong first.
func edges() []int {
	return []int{math.MinInt, math.MinInt + 1, -top - 1, -top, -2, -1, 0, 1, 2, 3, top / 2, top/2 + 1, top - 2, top - 1, top, top + 1, math.MaxInt - 1, math.MaxInt}
}

// edgeExtents are all extents of edges.
func edgeExtents() []api.Extent {
	var list []api.Extent
	for _, off := range edges() {
		for _, n := range edges() {
			list = append(list, ext(off, n))
		}
	}
	return list
}

// indexable reports by their definition whether extents can be in an index, with integers of any size.
func indexable(l ...api.Extent) bool {
	for i, a := range l {
		if a.Off < 0 || a.Len < 1 || endOf(a).Cmp(big.NewInt(top)) > 0 {
			return false
		}
		for _, b := range l[:i] {
			if endOf(a).Cmp(big.NewInt(int64(b.Off))) > 0 && endOf(b).Cmp(big.NewInt(int64(a.Off))) > 0 {
				return false
			}
		}
	}
	return true
}

func endOf(e api.Extent) *big.Int {
	return new(big.Int).Add(big.NewInt(int64(e.Off)), big.NewInt(int64(e.Len)))
}

// lists calls f with all lists of up to n extents of the given ones, in every order.
func lists(n int, from []api.Extent, f func(l []api.Extent)) {
	var extend func(l []api.Extent)
	extend = func(l []api.Extent) {
		f(l)
		if len(l) < n {
			for _, e := range from {
				extend(append(slices.Clip(l), e))
			}
		}
	}
	extend(nil)
}

// smallExtents are all extents without negative numbers that end at or before limit.
func smallExtents(limit int) []api.Extent {
	var list []api.Extent
	for off := range limit + 1 {
		for n := range limit - off + 1 {
			list = append(list, ext(off, n))
		}
	}
	return list
}

// A scale has the offsets, in ascending order, that stand for the small offsets from 0 on.
type scale []int

// extent is the extent that stands for a small one.
func (s scale) extent(e api.Extent) api.Extent {
	return ext(s[e.Off], s[e.Off+e.Len]-s[e.Off])
}

func (s scale) extents(l []api.Extent) []api.Extent {
	var list []api.Extent
	for _, e := range l {
		list = append(list, s.extent(e))
	}
	return list
}

// length is the length of what stands for a small byte.
func (s scale) length(off int) int { return s[off+1] - s[off] }

// plain is the scale in which each small offset stands for itself.
func plain(limit int) scale {
	var s scale
	for off := range limit + 1 {
		s = append(s, off)
	}
	return s
}

// scales are the scales for small offsets up to 6.
func scales() []scale {
	return []scale{
		plain(6),
		{top - 6, top - 5, top - 4, top - 3, top - 2, top - 1, top},
		{0, 1, 2, top / 2, top - 2, top - 1, top},
		{5, 8, 9, 20, 22, 29, 30},
	}
}

// owner is the position of the extent that has a byte, or -1.
func owner(l []api.Extent, off int) int {
	return slices.IndexFunc(l, func(e api.Extent) bool { return e.Off <= off && off-e.Off < e.Len })
}

// answer is what the index of an extent returns for another one.
type answer struct {
	meet    []int
	covered int
	gaps    []api.Extent
}

// want is the answer by its definition, byte by byte, for small extents.
func want(s scale, l []api.Extent, e api.Extent) answer {
	var a answer
	before := -1 // the owner of the byte before, if e has that byte
	for off := e.Off; off < e.Off+e.Len; off++ {
		own := owner(l, off)
		switch first := off == e.Off; {
		case own >= 0:
			a.covered += s.length(off)
			if first || own != before {
				a.meet = append(a.meet, own)
			}
		case first || before >= 0:
			a.gaps = append(a.gaps, ext(s[off], s.length(off)))
		default:
			a.gaps[len(a.gaps)-1].Len += s.length(off)
		}
		before = own
	}
	return a
}

// checkAnswer compares what an index returns for e with an answer, and checks P10.5.
func checkAnswer(t *testing.T, x *index.Index, e api.Extent, a answer) {
	t.Helper()
	meet, covered, gaps := x.Meet(e), x.Covered(e), x.Gaps(e)
	if !slices.Equal(meet, a.meet) {
		t.Fatalf("index of %v: Meet(%v) = %v, want %v", x.Sorted(), e, meet, a.meet)
	}
	if covered != a.covered {
		t.Fatalf("index of %v: Covered(%v) = %d, want %d", x.Sorted(), e, covered, a.covered)
	}
	if !slices.Equal(gaps, a.gaps) {
		t.Fatalf("index of %v: Gaps(%v) = %v, want %v", x.Sorted(), e, gaps, a.gaps)
	}
	sum := covered
	for _, gap := range gaps {
		sum += gap.Len
	}
	if sum != e.Len {
		t.Fatalf("index of %v: %d bytes of %v are covered or in gaps", x.Sorted(), sum, e)
	}
}

// checkList checks an index of small extents in a scale for every small offset and extent.
func checkList(t *testing.T, s scale, l []api.Extent) {
	t.Helper()
	scaled := s.extents(l)
	x := index.New(scaled...)
	checkNew(t, x, scaled)
	limit := len(s) - 1
	for off := range limit {
		for _, at := range []int{s[off], s[off+1] - 1} {
			checkFind(t, x, at, owner(l, off))
		}
	}
	for _, off := range []int{math.MinInt, -top, -1, s[0] - 1, s[limit], top, math.MaxInt} {
		checkFind(t, x, off, -1)
	}
	for _, e := range smallExtents(limit) {
		checkAnswer(t, x, s.extent(e), want(s, l, e))
	}
}

// checkNew checks Len and Sorted of an index of the extents.
func checkNew(t *testing.T, x *index.Index, l []api.Extent) {
	t.Helper()
	if x == nil {
		t.Fatalf("New(%v) = nil", l)
	}
	if x.Len() != len(l) {
		t.Fatalf("index of %v: Len() = %d", l, x.Len())
	}
	sorted := slices.Clone(l)
	slices.SortFunc(sorted, func(a, b api.Extent) int {
		if a.Off < b.Off {
			return -1
		}
		return 1
	})
	if got := x.Sorted(); !slices.Equal(got, sorted) {
		t.Fatalf("index of %v: Sorted() = %v", l, got)
	}
}

func checkFind(t *testing.T, x *index.Index, off, want int) {
	t.Helper()
	if got := x.Find(off); got != want {
		t.Fatalf("index of %v: Find(%d) = %d, want %d", x.Sorted(), off, got, want)
	}
}

// P10.1

func TestNew(t *testing.T) {
	for _, l := range [][]api.Extent{
		nil,
		{},
		{ext(0, 1)},
		{ext(7, 3)},
		{ext(5, 3), ext(0, 2)},
		{ext(0, 2), ext(2, 3)},
		{ext(2, 3), ext(0, 2)},
		{ext(9, 1), ext(3, 4), ext(0, 2), ext(7, 2), ext(2, 1)},
		{ext(0, top)},
		{ext(1, top-1), ext(0, 1)},
		{ext(top-1, 1)},
		{ext(top-1, 1), ext(0, top-1)},
		{ext(top/2, top-top/2), ext(0, top/2)},
	} {
		checkNew(t, index.New(l...), l)
	}
}

func TestNewRefuses(t *testing.T) {
	good := []api.Extent{ext(10, 5), ext(0, 3), ext(20, 1)}
	for _, e := range []api.Extent{
		ext(0, 0), ext(4, 0), ext(10, 0), ext(12, 0), ext(15, 0), ext(top, 0), // no bytes
		ext(-1, 1), ext(-1, 2), ext(-5, 1), ext(-1, 0), ext(4, -1), ext(15, -3), ext(math.MinInt, 1), ext(30, math.MinInt), // negative
		ext(top, 1), ext(30, top), ext(30, top-29), ext(top+1, 1), ext(top+1, 0), ext(math.MaxInt, 1), ext(30, math.MaxInt), ext(math.MaxInt, math.MaxInt), // too great
		ext(10, 5), ext(10, 1), ext(14, 1), ext(12, 2), ext(9, 2), ext(14, 9), ext(5, 20), ext(0, 1), ext(2, 1), ext(20, 1), ext(0, top), // in common
	} {
		for at := range len(good) + 1 {
			l := slices.Insert(slices.Clone(good), at, e)
			if x := index.New(l...); x != nil {
				t.Errorf("New(%v) has %d extents", l, x.Len())
			}
		}
	}
	for _, e := range []api.Extent{ext(0, 0), ext(-1, 1), ext(0, -1), ext(top, 1), ext(1, top), ext(math.MaxInt, math.MaxInt)} {
		if index.New(e) != nil {
			t.Errorf("New(%v) is an index", e)
		}
	}
}

// TestNewAtEdges compares New with the definition for all pairs of extreme extents.
func TestNewAtEdges(t *testing.T) {
	list := edgeExtents()
	for _, a := range list {
		if got := index.New(a) != nil; got != indexable(a) {
			t.Errorf("New(%v) is an index: %v", a, got)
		}
		for _, b := range list {
			if got := index.New(a, b) != nil; got != indexable(a, b) {
				t.Errorf("New(%v, %v) is an index: %v", a, b, got)
			}
		}
	}
}

// TestNewOfSmallLists compares New with the definition for all lists of up to three small extents.
func TestNewOfSmallLists(t *testing.T) {
	from := append(smallExtents(5), ext(-1, 2), ext(3, -1))
	lists(3, from, func(l []api.Extent) {
		x := index.New(l...)
		if got, want := x != nil, indexable(l...); got != want {
			t.Fatalf("New(%v) is an index: %v", l, got)
		}
		if x != nil {
			checkNew(t, x, l)
		}
	})
}

// P10.2 to P10.5

func TestKnown(t *testing.T) {
	x := index.New(ext(5, 3), ext(0, 2))
	for _, c := range []struct {
		e api.Extent
		a answer
	}{
		{ext(1, 5), answer{[]int{1, 0}, 2, []api.Extent{ext(2, 3)}}},
		{ext(0, 2), answer{[]int{1}, 2, nil}},
		{ext(2, 3), answer{nil, 0, []api.Extent{ext(2, 3)}}},
		{ext(1, 4), answer{[]int{1}, 1, []api.Extent{ext(2, 3)}}},
		{ext(2, 4), answer{[]int{0}, 1, []api.Extent{ext(2, 3)}}},
		{ext(6, 1), answer{[]int{0}, 1, nil}},
		{ext(7, 4), answer{[]int{0}, 1, []api.Extent{ext(8, 3)}}},
		{ext(8, 4), answer{nil, 0, []api.Extent{ext(8, 4)}}},
		{ext(0, 0), answer{}},
		{ext(1, 0), answer{}},
		{ext(3, 0), answer{}},
		{ext(6, 0), answer{}},
		{ext(top, 0), answer{}},
		{ext(0, top), answer{[]int{1, 0}, 5, []api.Extent{ext(2, 3), ext(8, top-8)}}},
		{ext(7, top-7), answer{[]int{0}, 1, []api.Extent{ext(8, top-8)}}},
	} {
		checkAnswer(t, x, c.e, c.a)
	}
	for off, want := range map[int]int{-1: -1, 0: 1, 1: 1, 2: -1, 4: -1, 5: 0, 7: 0, 8: -1, top - 1: -1, top: -1, math.MinInt: -1, math.MaxInt: -1} {
		checkFind(t, x, off, want)
	}
}

func TestWithoutExtents(t *testing.T) {
	x := index.New()
	for _, off := range edges() {
		checkFind(t, x, off, -1)
	}
	for _, e := range []api.Extent{ext(0, 1), ext(3, 4), ext(0, top), ext(top-1, 1)} {
		checkAnswer(t, x, e, answer{gaps: []api.Extent{e}})
	}
	checkAnswer(t, x, ext(0, 0), answer{})
	checkAnswer(t, x, ext(top, 0), answer{})
}

func TestAllBytes(t *testing.T) {
	x := index.New(ext(0, top))
	for _, off := range edges() {
		want := -1
		if off >= 0 && off < top {
			want = 0
		}
		checkFind(t, x, off, want)
	}
	for _, e := range []api.Extent{ext(0, 1), ext(3, 4), ext(0, top), ext(top-1, 1)} {
		checkAnswer(t, x, e, answer{meet: []int{0}, covered: e.Len})
	}
	checkAnswer(t, x, ext(0, 0), answer{})
	checkAnswer(t, x, ext(top, 0), answer{})
}

// TestSmallLists checks all indexes of up to three small extents, also in scales that reach the greatest offset.
func TestSmallLists(t *testing.T) {
	lists(3, smallExtents(6), func(l []api.Extent) {
		if indexable(l...) {
			for _, s := range scales() {
				checkList(t, s, l)
			}
		}
	})
}

// randomList returns extents with bytes below limit in any order, some of which touch.
func randomList(r *rand.Rand, limit int) []api.Extent {
	var list []api.Extent
	spaces := 1 + r.IntN(4)
	for at := r.IntN(spaces); at < limit; {
		e := ext(at, 1+r.IntN(min(5, limit-at)))
		list = append(list, e)
		at += e.Len + r.IntN(spaces)
	}
	r.Shuffle(len(list), func(i, k int) { list[i], list[k] = list[k], list[i] })
	return list
}

// randomScale returns a scale for small offsets up to limit that may begin and end anywhere.
func randomScale(r *rand.Rand, limit int) scale {
	s := scale{r.IntN(3)}
	for range limit {
		step := 1 + r.IntN(4)
		if r.IntN(3) == 0 {
			step += r.IntN(top / (2 * limit))
		}
		s = append(s, s[len(s)-1]+step)
	}
	if r.IntN(2) == 0 {
		by := top - s[limit]
		for i := range s {
			s[i] += by
		}
	}
	return s
}

func TestRandomLists(t *testing.T) {
	r := rand.New(rand.NewPCG(10, 1))
	for range 1500 {
		limit := 1 + r.IntN(24)
		l := randomList(r, limit)
		checkList(t, plain(limit), l)
		checkList(t, randomScale(r, limit), l)
	}
}

// TestManyExtents would not end in reasonable time if a search passed all extents.
func TestManyExtents(t *testing.T) {
	const n = 300_000
	positions := rand.New(rand.NewPCG(10, 2)).Perm(n) // of the extents in ascending order
	l := make([]api.Extent, n)
	for i, position := range positions {
		l[position] = ext(10*i, 4)
	}
	x := index.New(l...)
	checkNew(t, x, l)
	for i, position := range positions[:n-1] {
		at := 10 * i
		if x.Find(at) != position || x.Find(at+3) != position || x.Find(at+4) != -1 || x.Find(at+9) != -1 {
			t.Fatalf("Find from %d on", at)
		}
		e := ext(at+3, 8)
		if x.Covered(e) != 2 || !slices.Equal(x.Meet(e), positions[i:i+2]) || !slices.Equal(x.Gaps(e), []api.Extent{ext(at+4, 6)}) {
			t.Fatalf("Covered, Meet or Gaps of %v", e)
		}
	}
	all := ext(0, 10*n)
	if x.Covered(all) != 4*n || !slices.Equal(x.Meet(all), positions) || len(x.Gaps(all)) != n {
		t.Error("Covered, Meet or Gaps of all bytes")
	}
}

// Nil indexes

func TestNil(t *testing.T) {
	var x *index.Index
	if x.Len() != 0 || len(x.Sorted()) != 0 {
		t.Error("Len or Sorted")
	}
	for _, off := range edges() {
		if got := x.Find(off); got != -1 {
			t.Errorf("Find(%d) = %d", off, got)
		}
	}
	for _, e := range edgeExtents() {
		if meet, covered, gaps := x.Meet(e), x.Covered(e), x.Gaps(e); len(meet) != 0 || covered != 0 || len(gaps) != 0 {
			t.Errorf("%v: %v, %d, %v", e, meet, covered, gaps)
		}
	}
}

// P1, for extents that are not valid as well

func TestNoPanic(t *testing.T) {
	for _, x := range []*index.Index{nil, index.New(), index.New(ext(0, top)), index.New(ext(top-1, 1), ext(0, 1), ext(5, 7))} {
		for _, e := range edgeExtents() {
			x.Meet(e)
			x.Covered(e)
			x.Gaps(e)
			x.Find(e.Off)
		}
	}
}

// P2 and the rules on slices, objects and determinism

func TestArgumentsStay(t *testing.T) {
	backing := []api.Extent{ext(5, 3), ext(0, 2), ext(6, 9)}
	before := slices.Clone(backing)
	l := backing[:2] // the extent after it would make the list one of no index
	x := index.New(l...)
	checkNew(t, x, l)
	if !slices.Equal(backing, before) {
		t.Errorf("arguments are now %v", backing)
	}
	clear(backing)
	checkNew(t, x, before[:2])
	checkAnswer(t, x, ext(1, 5), answer{[]int{1, 0}, 2, []api.Extent{ext(2, 3)}})
}

// spoil overwrites all elements of a slice, up to its capacity.
func spoil[T any](l []T, x T) {
	l = l[:cap(l)]
	for i := range l {
		l[i] = x
	}
}

func TestResultsAreNew(t *testing.T) {
	l := []api.Extent{ext(5, 3), ext(0, 2), ext(9, 1)}
	x := index.New(l...)
	a := answer{[]int{1, 0, 2}, 6, []api.Extent{ext(2, 3), ext(8, 1)}}
	all := ext(0, 10)
	meet, gaps, sorted := x.Meet(all), x.Gaps(all), x.Sorted()
	for range 2 {
		spoil(x.Meet(all), 7)
		spoil(x.Gaps(all), ext(-1, -1))
		spoil(x.Sorted(), ext(-1, -1))
		checkNew(t, x, l)
		checkAnswer(t, x, all, a)
		checkFind(t, x, 6, 0)
	}
	if !slices.Equal(meet, a.meet) || !slices.Equal(gaps, a.gaps) || !slices.Equal(sorted, []api.Extent{ext(0, 2), ext(5, 3), ext(9, 1)}) {
		t.Errorf("first results are now %v, %v and %v", meet, gaps, sorted)
	}
}

func TestIndependence(t *testing.T) {
	l := []api.Extent{ext(5, 3), ext(0, 2)}
	x, y := index.New(l...), index.New(l...)
	l[0] = ext(7, 1)
	z := index.New(l...)
	index.New(ext(3, 9), ext(4, 1))
	for _, same := range []*index.Index{x, y} {
		checkNew(t, same, []api.Extent{ext(5, 3), ext(0, 2)})
		checkFind(t, same, 5, 0)
	}
	checkNew(t, z, l)
	checkFind(t, z, 5, -1)
}

func TestConcurrentCalls(t *testing.T) {
	var group sync.WaitGroup
	for i := range 8 {
		group.Go(func() {
			x := index.New(ext(i+5, 3), ext(0, 2))
			for range 100 {
				if x.Find(i+5) != 0 || x.Covered(ext(0, i+8)) != 5 || !slices.Equal(x.Gaps(ext(0, i+8)), []api.Extent{ext(2, i+3)}) {
					t.Errorf("index %d", i)
				}
			}
		})
	}
	group.Wait()
}
