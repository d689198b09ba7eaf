// Package word is layer 1: see shared/doc/01-word.md.
package word

import (
	"math/bits"
	"slices"
)

const (
	wordBits  = 64
	wordBytes = 8
	maxWidth  = 63 // a packed number is an int from 0 on, so its sign's bit is never used
)

// Fits: is a number one of so many bits?
func Fits(n, bits int) bool {
	return rightBits(bits) && Cut(n, bits) == n
}

// Cut: the number of a number's lowest bits.
func Cut(n, bits int) int {
	if !rightBits(bits) {
		return 0
	}
	above := wordBits - bits
	return n << above >> above // the shift back to the right spreads the sign
}

func rightBits(bits int) bool {
	return bits >= 1 && bits <= wordBits
}

// Zig: a number, without its sign.
func Zig(n int) uint64 {
	return uint64(n<<1) ^ uint64(n>>(wordBits-1))
}

// Zag: the number that is so.
func Zag(u uint64) int {
	return int(u>>1) ^ -int(u&1)
}

// Turn: bits turned to the left.
func Turn(u uint64, k int) uint64 {
	return bits.RotateLeft64(u, k)
}

// Count: how many bits are 1.
func Count(u uint64) int {
	return bits.OnesCount64(u)
}

// Low: the place of the lowest bit that is 1.
func Low(u uint64) int {
	return bits.TrailingZeros64(u)
}

// Pack: numbers in one word.
func Pack(widths, vals []int) (uint64, bool) {
	if len(widths) != len(vals) || !rightWidths(widths) {
		return 0, false
	}
	u := uint64(0)
	// Backwards, so that each number pushes those above it up by its own width.
	for i, val := range slices.Backward(vals) {
		if val < 0 || uint64(val) > mask(widths[i]) {
			return 0, false
		}
		u = u<<widths[i] | uint64(val)
	}
	return u, true
}

// Unpack: the numbers of a word.
func Unpack(widths []int, u uint64) ([]int, bool) {
	if !rightWidths(widths) {
		return nil, false
	}
	vals := make([]int, len(widths))
	for i, width := range widths {
		vals[i] = int(u & mask(width))
		u >>= width
	}
	if u != 0 {
		return nil, false
	}
	return vals, true
}

// rightWidths stops at the first width that is too much, so that their sum can't go round.
func rightWidths(widths []int) bool {
	all := 0
	for _, width := range widths {
		if width < 1 || width > maxWidth {
			return false
		}
		all += width
		if all > wordBits {
			return false
		}
	}
	return true
}

// mask: the greatest number of a right width.
func mask(width int) uint64 {
	return uint64(1)<<width - 1
}

// Bytes: a word's lowest bytes.
func Bytes(u uint64, n int) []byte {
	if n < 0 || n > wordBytes || u>>(8*n) != 0 {
		return nil
	}
	b := make([]byte, n)
	for i := range b {
		b[i] = byte(u >> (8 * i))
	}
	return b
}

// From: the word of bytes.
func From(b []byte) (uint64, bool) {
	if len(b) > wordBytes {
		return 0, false
	}
	u := uint64(0)
	for _, x := range slices.Backward(b) {
		u = u<<8 | uint64(x)
	}
	return u, true
}
