package sha

import (
	"math/bits"

	"bulla/api"
)

// start is the first 32 bits behind the point of the square roots of the first 8 primes.
var start = [8]uint32{
	0x6a09e667, 0xbb67ae85, 0x3c6ef372, 0xa54ff53a, 0x510e527f, 0x9b05688c, 0x1f83d9ab, 0x5be0cd19,
}

// rounds is the same of the cube roots of the first 64 primes.
var rounds = [64]uint32{
	0x428a2f98, 0x71374491, 0xb5c0fbcf, 0xe9b5dba5, 0x3956c25b, 0x59f111f1, 0x923f82a4, 0xab1c5ed5,
	0xd807aa98, 0x12835b01, 0x243185be, 0x550c7dc3, 0x72be5d74, 0x80deb1fe, 0x9bdc06a7, 0xc19bf174,
	0xe49b69c1, 0xefbe4786, 0x0fc19dc6, 0x240ca1cc, 0x2de92c6f, 0x4a7484aa, 0x5cb0a9dc, 0x76f988da,
	0x983e5152, 0xa831c66d, 0xb00327c8, 0xbf597fc7, 0xc6e00bf3, 0xd5a79147, 0x06ca6351, 0x14292967,
	0x27b70a85, 0x2e1b2138, 0x4d2c6dfc, 0x53380d13, 0x650a7354, 0x766a0abb, 0x81c2c92e, 0x92722c85,
	0xa2bfe8a1, 0xa81a664b, 0xc24b8b70, 0xc76c51a3, 0xd192e819, 0xd6990624, 0xf40e3585, 0x106aa070,
	0x19a4c116, 0x1e376c08, 0x2748774c, 0x34b0bcb5, 0x391c0cb3, 0x4ed8aa4a, 0x5b9cca4f, 0x682e6ff3,
	0x748f82ee, 0x78a5636f, 0x84c87814, 0x8cc70208, 0x90befffa, 0xa4506ceb, 0xbef9a3f7, 0xc67178f2,
}

// chain is the words that go from block to block, and how many blocks went into them.
type chain struct {
	words  [8]uint32
	blocks int
}

// mix lets one block more go into the words.
func (c *chain) mix(block [blockSize]byte) {
	if c.blocks == 0 { // set here, so that the zero value is a hash of no bytes, too
		c.words = start
	}
	c.words = compress(c.words, schedule(block))
	c.blocks++
}

// digest is the words as bytes. There is a block ahead of it always: the one that is padded.
func (c *chain) digest() [api.Digest]byte {
	var d [api.Digest]byte
	for i, w := range c.words {
		for j := range 4 {
			d[4*i+j] = byte(w >> (24 - 8*j))
		}
	}
	return d
}

// schedule is the words of a block, and those that the standard makes of them.
func schedule(block [blockSize]byte) [64]uint32 {
	var w [64]uint32
	for i := range blockSize / 4 {
		b := block[4*i : 4*i+4]
		w[i] = uint32(b[0])<<24 | uint32(b[1])<<16 | uint32(b[2])<<8 | uint32(b[3])
	}
	for i := 16; i < len(w); i++ {
		w[i] = w[i-16] + low(w[i-15], 7, 18, 3) + w[i-7] + low(w[i-2], 17, 19, 10)
	}
	return w
}

// compress is FIPS 180-4's compression; the letters are the standard's.
func compress(from [8]uint32, w [64]uint32) [8]uint32 {
	a, b, c, d := from[0], from[1], from[2], from[3]
	e, f, g, h := from[4], from[5], from[6], from[7]
	for i := range w {
		t1 := h + high(e, 6, 11, 25) + (e&f ^ ^e&g) + rounds[i] + w[i]
		t2 := high(a, 2, 13, 22) + (a&b ^ a&c ^ b&c)
		a, b, c, d, e, f, g, h = t1+t2, a, b, c, d+t1, e, f, g
	}
	return [8]uint32{
		from[0] + a, from[1] + b, from[2] + c, from[3] + d,
		from[4] + e, from[5] + f, from[6] + g, from[7] + h,
	}
}

// high is the standard's great sigma: a word turned right thrice.
func high(x uint32, i, j, k int) uint32 {
	return bits.RotateLeft32(x, -i) ^ bits.RotateLeft32(x, -j) ^ bits.RotateLeft32(x, -k)
}

// low is the standard's small sigma: a word turned right twice, and once shifted.
func low(x uint32, i, j, k int) uint32 {
	return bits.RotateLeft32(x, -i) ^ bits.RotateLeft32(x, -j) ^ x>>k
}
