// Package num has whole numbers of 256 bits.
package num

import (
	"math/bits"

	"tallystick/api"
)

const (
	words    = 4
	wordBits = 64
	size     = words * wordBits
)

// Num is a number from 0 to 2^256 - 1, in four words, the lowest first.
type Num [4]uint64

// Of: a small number.
func Of(n uint64) Num { return Num{n} }

// Cmp: below 0, 0 or above 0, as a is less than b, it, or greater.
func Cmp(a, b Num) int {
	if a == b {
		return 0
	}
	if _, less := Sub(a, b); less {
		return -1
	}
	return 1
}

// Zero: is it nought?
func (a Num) Zero() bool { return a == Num{} }

// Add: the sums of numbers, one after the other; true: one didn't fit, and what is beyond 256 bits is lost.
func Add(list ...Num) (Num, bool) {
	var sum Num
	over := false
	for _, n := range list {
		var carry uint64
		for i := range sum {
			sum[i], carry = bits.Add64(sum[i], n[i], carry)
		}
		over = over || carry != 0
	}
	return sum, over
}

// Sub: a less b; true: b is greater, and it is 2^256 more.
func Sub(a, b Num) (Num, bool) {
	var left Num
	var borrow uint64
	for i := range left {
		left[i], borrow = bits.Sub64(a[i], b[i], borrow)
	}
	return left, borrow != 0
}

// Mul: a number so many times; true: it didn't fit, and what is beyond 256 bits is lost.
func Mul(a Num, n uint64) (Num, bool) {
	var product Num
	var beyond uint64
	for i, w := range a {
		high, low := bits.Mul64(w, n)
		sum, carry := bits.Add64(low, beyond, 0)
		product[i] = sum
		beyond = high + carry // high is at most 2^64 - 2, so this fits
	}
	return product, beyond != 0
}

// Not: 2^256 - 1 less a number.
func Not(a Num) Num {
	var other Num
	for i, w := range a {
		other[i] = ^w
	}
	return other
}

// Shl, Shr: a number n bits to the left, or to the right; what is beyond is lost.
func Shl(a Num, n int) Num {
	var turned Num
	if n < 0 || n >= size {
		return turned
	}
	by, rest := n/wordBits, n%wordBits
	for i := by; i < words; i++ {
		turned[i] = a[i-by] << rest
		if i > by {
			turned[i] |= a[i-by-1] >> (wordBits - rest) // nought, if rest is
		}
	}
	return turned
}

func Shr(a Num, n int) Num {
	var turned Num
	if n < 0 || n >= size {
		return turned
	}
	by, rest := n/wordBits, n%wordBits
	for i := 0; i+by < words; i++ {
		turned[i] = a[i+by] >> rest
		if i+by+1 < words {
			turned[i] |= a[i+by+1] << (wordBits - rest) // nought, if rest is
		}
	}
	return turned
}

// Len: how many bits a number has.
func Len(a Num) int {
	for i := words - 1; i >= 0; i-- {
		if a[i] != 0 {
			return i*wordBits + bits.Len64(a[i])
		}
	}
	return 0
}

// Div: how often b is in a, and what is left; of nought there is none.
func Div(a, b Num) (Num, Num, api.Errno) {
	if b.Zero() {
		return Num{}, Num{}, api.ErrRange
	}
	var times Num
	left := a
	for n := Len(a) - Len(b); n >= 0; n-- { // never beyond 256 bits, so that Shl loses nothing
		if rest, less := Sub(left, Shl(b, n)); !less {
			left = rest
			times[n/wordBits] |= 1 << (n % wordBits)
		}
	}
	return times, left, api.OK
}

// FromID: the number that an ID's bytes are, the lowest first.
func FromID(id api.ID) Num {
	var a Num
	for i, b := range id {
		a[i/8] |= uint64(b) << (i % 8 * 8)
	}
	return a
}

// ID: a number's bytes, the lowest first.
func (a Num) ID() api.ID {
	var id api.ID
	for i := range id {
		id[i] = byte(a[i/8] >> (i % 8 * 8))
	}
	return id
}
