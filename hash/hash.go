// Package hash has the SHA-256 of bytes, once and twice.
package hash

import (
	"math/bits"

	"tallystick/api"
)

const (
	blockSize = 64
	sizeAt    = blockSize - 8 // where the last block tells how many bits there are
)

// start is what FIPS 180-4 begins with: the first 32 bits behind the point of the square roots of the first 8 primes.
var start = [8]uint32{
	0x6a09e667, 0xbb67ae85, 0x3c6ef372, 0xa54ff53a, 0x510e527f, 0x9b05688c, 0x1f83d9ab, 0x5be0cd19,
}

// rounds has a number for each of its rounds: likewise of the cube roots of the first 64 primes.
var rounds = [64]uint32{
	0x428a2f98, 0x71374491, 0xb5c0fbcf, 0xe9b5dba5, 0x3956c25b, 0x59f111f1, 0x923f82a4, 0xab1c5ed5,
	0xd807aa98, 0x12835b01, 0x243185be, 0x550c7dc3, 0x72be5d74, 0x80deb1fe, 0x9bdc06a7, 0xc19bf174,
	0xe49b69c1, 0xefbe4786, 0x0fc19dc6, 0x240ca1cc, 0x2de92c6f, 0x4a7484aa, 0x5cb0a9dc, 0x76f988da,
	0x983e5152, 0xa831c66d, 0xb00327c8, 0xbf597fc7, 0xc6e00bf3, 0xd5a79147, 0x06ca6351, 0x14292967,
	0x27b70a85, 0x2e1b2138, 0x4d2c6dfc, 0x53380d13, 0x650a7354, 0x766a0abb, 0x81c2c92e, 0x92722c85,
	0xa2bfe8a1, 0xa81a664b, 0xc24b8b70, 0xc76c51a3, 0xd192e819, 0xd6990624, 0xf40e3585, 0x106aa070,
	0x19a4c116, 0x1e376c08, 0x2748774c, 0x34b0bcb5, 0x391c0cb3, 0x4ed8aa4a, 0x5b9cca4f, 0x682e6ff3,
	0x748f82ee, 0x78a5636f, 0x84c87814, 0x8cc70208, 0x90befffa, 0xa4506ceb, 0xbef9a3f7, 0xc67178f2,
}

// digest is a sum that isn't finished: what the whole blocks made, and the bytes of one that isn't whole.
type digest struct {
	words [8]uint32
	block [blockSize]byte
	used  int
	size  uint64
}

// Sum: the SHA-256 of parts, one behind the other.
func Sum(parts ...[]byte) api.ID {
	var d digest
	for i, w := range start {
		d.words[i] = w
	}
	for _, p := range parts {
		d.add(p)
	}
	return d.end()
}

// Twice: the SHA-256 of the SHA-256 of parts.
func Twice(parts ...[]byte) api.ID {
	once := Sum(parts...)
	return Sum(once[:])
}

func (d *digest) add(p []byte) {
	d.size += uint64(len(p))
	for len(p) > 0 {
		n := copy(d.block[d.used:], p)
		p = p[n:]
		d.used += n
		if d.used == blockSize {
			d.mix()
		}
	}
}

func (d *digest) end() api.ID {
	d.block[d.used] = 0x80 // a block that is whole is mixed at once, so there is room
	d.used++
	if d.used > sizeAt {
		d.mix()
	}
	putSize(&d.block, d.size*8)
	d.mix()
	return name(d.words)
}

// mix takes the block into the words, and begins an empty one.
func (d *digest) mix() {
	turned := turn(d.words, schedule(d.block))
	for i, w := range turned {
		d.words[i] += w
	}
	d.block = [blockSize]byte{}
	d.used = 0
}

func putSize(block *[blockSize]byte, size uint64) {
	for i := range 8 {
		block[sizeAt+i] = byte(size >> (56 - 8*i))
	}
}

func name(words [8]uint32) api.ID {
	var id api.ID
	for i, w := range words {
		id[4*i] = byte(w >> 24)
		id[4*i+1] = byte(w >> 16)
		id[4*i+2] = byte(w >> 8)
		id[4*i+3] = byte(w)
	}
	return id
}

// schedule makes a word for each round of a block.
func schedule(block [blockSize]byte) [64]uint32 {
	var words [64]uint32
	for i := range 16 {
		words[i] = uint32(block[4*i])<<24 | uint32(block[4*i+1])<<16 | uint32(block[4*i+2])<<8 | uint32(block[4*i+3])
	}
	for i := 16; i < 64; i++ {
		x, y := words[i-15], words[i-2]
		low := right(x, 7) ^ right(x, 18) ^ x>>3
		high := right(y, 17) ^ right(y, 19) ^ y>>10
		words[i] = high + words[i-7] + low + words[i-16]
	}
	return words
}

// turn goes through all rounds; the letters are those of the standard.
func turn(words [8]uint32, plan [64]uint32) [8]uint32 {
	a, b, c, d, e, f, g, h := words[0], words[1], words[2], words[3], words[4], words[5], words[6], words[7]
	for i, k := range rounds {
		t1 := h + (right(e, 6) ^ right(e, 11) ^ right(e, 25)) + (e&f ^ ^e&g) + k + plan[i]
		t2 := (right(a, 2) ^ right(a, 13) ^ right(a, 22)) + (a&b ^ a&c ^ b&c)
		a, b, c, d, e, f, g, h = t1+t2, a, b, c, d+t1, e, f, g
	}
	return [8]uint32{a, b, c, d, e, f, g, h}
}

func right(x uint32, n int) uint32 { return bits.RotateLeft32(x, -n) }
