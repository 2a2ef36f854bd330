// Package varint is layer 1: numbers as few bytes as need be.
package varint

import (
	"iter"

	"esker/api"
)

const (
	more      = 1 << 7  // added to each byte of a number but the last one
	mostBytes = 10      // the bytes that 64 bits take, seven each
	mostTop   = 1       // nine bytes hold 63 bits: the tenth one has room for one
	mostTaken = 1 << 20 // the numbers of one call
)

// Zig turns a number so that small ones, below 0 too, are small.
func Zig(n int64) uint64 { return uint64(n)<<1 ^ uint64(n>>63) }

// Zag turns it back.
func Zag(u uint64) int64 { return int64(u>>1) ^ -int64(u&1) }

// Size is how many bytes a number takes.
func Size(u uint64) int {
	n := 1
count:
	for {
		switch {
		case u < more:
			break count
		default:
			u >>= 7
			n++
		}
	}
	return n
}

// Put puts a number behind all.
func Put(b []byte, u uint64) []byte {
	return add(grown(b, Size(u)), u)
}

// Take takes a number; what is left.
func Take(b []byte) (uint64, []byte, api.Errno) {
	n, e := span(b)
	if e != api.OK {
		return 0, nil, e
	}
	return join(b[:n]), grown(b[n:], 0), api.OK
}

// PutAll puts numbers, turned, behind all.
func PutAll(b []byte, l []int64) []byte {
	size := 0
	for _, n := range l {
		size += Size(Zig(n))
	}
	out := grown(b, size)
	for _, n := range l {
		out = add(out, Zig(n))
	}
	return out
}

// TakeAll takes so many numbers, turned; what is left.
func TakeAll(b []byte, n int) ([]int64, []byte, api.Errno) {
	if n < 0 || n > mostTaken {
		return nil, nil, api.ErrArg
	}
	// Each number takes a byte at least: a great n alone must not take memory.
	l := make([]int64, 0, min(n, len(b)))
	end := 0
	for t := range numbers(b, n) {
		if t.e != api.OK {
			return nil, nil, t.e
		}
		l = append(l, Zag(t.u))
		end = t.end
	}
	return l, grown(b[end:], 0), api.OK
}

// told is a number that was found among bytes, or why there is none.
type told struct {
	u   uint64
	end int // the place behind its bytes
	e   api.Errno
}

// numbers tells the first n numbers of b one by one, up to the first error.
// It goes on by places in b: to copy what is left each time would take a time that grows with its square.
func numbers(b []byte, n int) iter.Seq[told] {
	return func(yield func(told) bool) {
		at := 0
		for range n {
			size, e := span(b[at:])
			if e != api.OK {
				yield(told{e: e})
				return
			}
			end := at + size
			if !yield(told{u: join(b[at:end]), end: end}) {
				return
			}
			at = end
		}
	}
}

// span counts the bytes of the number that b begins with.
func span(b []byte) (int, api.Errno) {
	last := 0
count:
	for {
		switch {
		case last == mostBytes: // ahead of ErrShort: nothing that could follow would make it a number
			return 0, api.ErrForm
		case last == len(b):
			return 0, api.ErrShort
		case b[last] < more:
			break count
		default:
			last++
		}
	}
	tooGreat := last == mostBytes-1 && b[last] > mostTop
	tooLong := last > 0 && b[last] == 0
	if tooGreat || tooLong {
		return 0, api.ErrForm
	}
	return last + 1, api.OK
}

// join is the number of bytes that span has counted.
func join(b []byte) uint64 {
	var u uint64
	for i, c := range b {
		u |= uint64(c%more) << (7 * i)
	}
	return u
}

// add appends the bytes of u to b, that is its caller's own.
func add(b []byte, u uint64) []byte {
	for u >= more {
		b = append(b, byte(u%more)+more)
		u >>= 7
	}
	return append(b, byte(u))
}

// grown is b in new memory, with room behind it: to append to b itself could write into its owner's room.
func grown(b []byte, room int) []byte {
	out := make([]byte, len(b), len(b)+room)
	copy(out, b)
	return out
}
