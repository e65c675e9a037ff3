// Package nat is layer 1: natural numbers (shared/doc/01-nat.md).
//
// Lists that are no naturals are taken by their value, as if they were trimmed: so every result that is a list is a natural, whatever the arguments.
package nat

import (
	"cmp"
	"math/bits"

	"exactreal/api"
)

const wordBits = 32

// length returns the number of elements that are left without the zero elements at the end.
func length(a []uint32) int {
	n := len(a)
	for n > 0 && a[n-1] == 0 {
		n--
	}
	return n
}

// Valid reports whether a is a natural.
func Valid(a []uint32) bool {
	return length(a) == len(a)
}

// Trim returns the natural with the value of a.
func Trim(a []uint32) []uint32 {
	trimmed := make([]uint32, length(a))
	copy(trimmed, a)
	return trimmed
}

// Of returns the natural with the value n.
func Of(n uint64) []uint32 {
	a := []uint32{uint32(n), uint32(n >> wordBits)}
	return a[:length(a)]
}

// Uint returns the value of a and true, or 0 and false if it is not less than 2^64.
func Uint(a []uint32) (uint64, bool) {
	switch length(a) {
	case 0:
		return 0, true
	case 1:
		return uint64(a[0]), true
	case 2:
		return uint64(a[1])<<wordBits | uint64(a[0]), true
	}
	return 0, false
}

// Cmp returns -1, 0 or 1 if a is less than, equal to, or greater than b.
func Cmp(a, b []uint32) int {
	n := length(a)
	if c := cmp.Compare(n, length(b)); c != 0 {
		return c
	}
	for i := n - 1; i >= 0; i-- {
		if c := cmp.Compare(a[i], b[i]); c != 0 {
			return c
		}
	}
	return 0
}

// Add returns a + b.
func Add(a, b []uint32) []uint32 {
	if len(a) < len(b) {
		a, b = b, a
	}
	sum := make([]uint32, len(a)+1)
	carry := uint64(0)
	for i, word := range a {
		carry += uint64(word)
		if i < len(b) {
			carry += uint64(b[i])
		}
		sum[i] = uint32(carry)
		carry >>= wordBits
	}
	sum[len(a)] = uint32(carry)
	return sum[:length(sum)]
}

// Sub returns a - b and true, or no elements and false if b is greater than a.
func Sub(a, b []uint32) ([]uint32, bool) {
	if Cmp(a, b) < 0 {
		return nil, false
	}
	difference := make([]uint32, length(a))
	borrow := uint64(0)
	for i := range difference {
		word := uint64(a[i]) - borrow
		if i < len(b) {
			word -= uint64(b[i])
		}
		difference[i] = uint32(word)
		// A word below zero has wrapped around, so its highest bit is set.
		borrow = word >> 63
	}
	return difference[:length(difference)], true
}

// Shl returns a * 2^n; no elements if n is not from 0 to MaxShift.
func Shl(a []uint32, n int) []uint32 {
	count := length(a)
	// The bound on n keeps the memory of the result bounded, too.
	if n < 0 || n > api.MaxShift || count == 0 {
		return nil
	}
	skip, left := n/wordBits, n%wordBits
	shifted := make([]uint32, skip+count+1)
	for i, word := range a[:count] {
		wide := uint64(word) << left
		shifted[skip+i] |= uint32(wide)
		shifted[skip+i+1] = uint32(wide >> wordBits)
	}
	return shifted[:length(shifted)]
}

// Shr returns the greatest natural that is not greater than a / 2^n; no elements if n is negative.
func Shr(a []uint32, n int) []uint32 {
	skip, right := n/wordBits, n%wordBits
	if n < 0 || skip >= len(a) {
		return nil
	}
	shifted := make([]uint32, len(a)-skip)
	for i, word := range a[skip:] {
		wide := uint64(word)
		if above := skip + i + 1; above < len(a) {
			wide |= uint64(a[above]) << wordBits
		}
		shifted[i] = uint32(wide >> right)
	}
	return shifted[:length(shifted)]
}

// Low returns the remainder of a modulo 2^n; no elements if n is negative.
func Low(a []uint32, n int) []uint32 {
	if n < 0 {
		return nil
	}
	whole, rest := n/wordBits, n%wordBits
	if whole >= len(a) {
		return Trim(a)
	}
	low := make([]uint32, whole+1)
	copy(low, a)
	low[whole] &= 1<<rest - 1
	return low[:length(low)]
}

// Bits returns the number of binary digits of a, 0 for zero.
func Bits(a []uint32) int {
	n := length(a)
	if n == 0 {
		return 0
	}
	return (n-1)*wordBits + bits.Len32(a[n-1])
}

// Bit reports whether the binary digit i of a is 1.
func Bit(a []uint32, i int) bool {
	if i < 0 || i/wordBits >= len(a) {
		return false
	}
	return a[i/wordBits]>>(i%wordBits)&1 == 1
}

// Zeros returns the number of zero digits below the lowest digit 1, 0 for zero.
func Zeros(a []uint32) int {
	for i, word := range a {
		if word != 0 {
			return i*wordBits + bits.TrailingZeros32(word)
		}
	}
	return 0
}
