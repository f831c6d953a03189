package patch

import (
	"slices"

	"graft/api"
	"graft/command"
)

// none is the index of what is not there.
const none = -1

// Make returns a delta that leads from one file to another one.
func Make(old, new []byte, block int) api.Delta {
	return Describe(old, new, commands(new, finder(old, new, block))...)
}

// commands returns the commands that write new. For an offset of new, find returns where the bytes to copy begin in the old file, and how many they are; with 0 bytes to copy, the byte at the offset is literal.
func commands(new []byte, find func(p int) (q, n int)) []api.Command {
	var l []api.Command
	begin := 0 // where the literal bytes before p begin
	for p := 0; p < len(new); {
		q, n := find(p)
		if n == 0 {
			p++
			continue
		}
		l = append(withLiteral(l, new, begin, p), command.Copy(p, q, n))
		p += n
		begin = p
	}
	return withLiteral(l, new, begin, len(new))
}

// withLiteral adds the Literal of the bytes from begin to end, if there are any, to commands.
func withLiteral(l []api.Command, new []byte, begin, end int) []api.Command {
	if begin == end {
		return l
	}
	return append(l, command.Literal(begin, new[begin:end]))
}

// finder returns the function that finds the bytes to copy.
func finder(old, new []byte, block int) func(p int) (q, n int) {
	offsets := blockOffsets(old, new, block)
	return func(p int) (int, int) {
		if p >= len(offsets) || offsets[p] == none {
			return 0, 0
		}
		q := offsets[p]
		return q, common(old[q:], new[p:])
	}
}

// common returns the number of bytes that the beginnings of a and b have in common.
func common(a, b []byte) int {
	most := min(len(a), len(b))
	for n := range most {
		if a[n] != b[n] {
			return n
		}
	}
	return most
}

// blockOffsets returns for each offset of new at which a block begins the smallest offset of the same block in old, or none.
func blockOffsets(old, new []byte, block int) []int {
	if block < 1 || block > min(len(old), len(new)) {
		return nil
	}
	inOld, inNew := firsts(old, new)
	for size := 1; size < block; {
		// A longer piece is known by the two pieces of this size at its ends, so that the size can double, and long blocks take little more time than short ones.
		step := min(size, block-size)
		inOld, inNew = firsts(pairs(inOld, step), pairs(inNew, step))
		size += step
	}
	return inNew
}

// firsts returns for each item of old, and for each one of new, the smallest index of an equal item of old, or none.
func firsts[T comparable](old, new []T) (inOld, inNew []int) {
	first := map[T]int{}
	// The smallest index is the last one to be set.
	for i, item := range slices.Backward(old) {
		first[item] = i
	}
	return lookUp(first, old), lookUp(first, new)
}

// lookUp returns the index of each item, or none.
func lookUp[T comparable](indices map[T]int, items []T) []int {
	l := make([]int, len(items))
	for i, item := range items {
		index, known := indices[item]
		if !known {
			index = none
		}
		l[i] = index
	}
	return l
}

// pairs returns each number of a list together with the one that is step after it.
func pairs(l []int, step int) [][2]int {
	list := make([][2]int, len(l)-step)
	for i := range list {
		list[i] = [2]int{l[i], l[i+step]}
	}
	return list
}
