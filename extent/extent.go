// Package extent is layer 1; see shared/doc/01-extent.md.
package extent

import (
	"iter"

	"graft/api"
)

// mostPieces is the greatest number of extents that Split returns.
const mostPieces = 1 << 20

// Valid reports whether an extent is valid.
func Valid(e api.Extent) bool {
	// The sum of Off and Len may be too great for an int; this difference never is.
	return e.Off >= 0 && e.Len >= 0 && e.Off <= api.MaxLen-e.Len
}

// End returns the offset after the last byte.
func End(e api.Extent) int { return e.Off + e.Len }

// Contains reports whether all extents of a list begin and end within an extent.
func Contains(e api.Extent, l ...api.Extent) bool {
	for _, part := range l {
		if part.Off < e.Off || End(part) > End(e) {
			return false
		}
	}
	return true
}

// Overlap returns the bytes that two extents have in common.
func Overlap(a, b api.Extent) (api.Extent, bool) {
	begin, end := max(a.Off, b.Off), min(End(a), End(b))
	if begin >= end {
		return api.Extent{}, false
	}
	return between(begin, end), true
}

// Join returns the smallest extent that contains two extents that touch.
func Join(a, b api.Extent) (api.Extent, bool) {
	if a.Off > End(b) || b.Off > End(a) {
		return api.Extent{}, false
	}
	return between(min(a.Off, b.Off), max(End(a), End(b))), true
}

// between returns the extent with a beginning and an end.
func between(begin, end int) api.Extent {
	return api.Extent{Off: begin, Len: end - begin}
}

// Shift moves an extent.
func Shift(e api.Extent, by int) (api.Extent, bool) {
	// Off of a valid extent is less than 2^62, so a sum that wraps around is negative, and not valid.
	moved := api.Extent{Off: e.Off + by, Len: e.Len}
	if !Valid(moved) {
		return api.Extent{}, false
	}
	return moved, true
}

// Split divides an extent.
func Split(e api.Extent, size int) []api.Extent {
	n := count(e, size)
	if n > mostPieces {
		return nil
	}
	list := make([]api.Extent, 0, n)
	for piece := range pieces(e, size) {
		list = append(list, piece)
	}
	return list
}

// count returns the number of pieces of a size.
func count(e api.Extent, size int) int {
	if e.Len < 1 || size < 1 {
		return 0
	}
	return (e.Len-1)/size + 1
}

// pieces yields the pieces of a size in ascending order.
func pieces(e api.Extent, size int) iter.Seq[api.Extent] {
	return func(yield func(api.Extent) bool) {
		for i := range count(e, size) {
			// Lengths are compared, not ends: the end of a last piece of the full size may be too great for an int.
			done := i * size
			piece := api.Extent{Off: e.Off + done, Len: min(size, e.Len-done)}
			if !yield(piece) {
				return
			}
		}
	}
}

// Total returns the sum of the lengths of extents.
func Total(l ...api.Extent) (int, bool) {
	sum := 0
	for _, e := range l {
		if e.Len > api.MaxLen-sum {
			return 0, false
		}
		sum += e.Len
	}
	return sum, true
}
