// Package sha is layer 1: SHA-256, see shared/doc/01-sha.md.
package sha

import "bulla/api"

// Sum is the digest of all parts, one behind the other.
func Sum(parts ...[]byte) [api.Digest]byte {
	h := New()
	for _, p := range parts {
		h.Write(p)
	}
	return h.Sum()
}

// Text is a digest's figures.
func Text(d [api.Digest]byte) string {
	const figures = "0123456789abcdef"
	var text [2 * api.Digest]byte
	for i, b := range d {
		text[2*i] = figures[b>>4]
		text[2*i+1] = figures[b&15]
	}
	return string(text[:])
}

// Hash is bytes that come one behind the other.
// All of it lies in arrays, so that a copy of the value goes on apart.
type Hash struct {
	chain
	rest
}

// New is a hash of no bytes.
func New() *Hash { return &Hash{} }

// Write puts bytes behind the others.
func (h *Hash) Write(b []byte) {
	for len(b) > 0 {
		b = h.take(b)
		if h.full() {
			h.mix(h.bytes)
			h.filled = 0
		}
	}
}

// Sum is the digest of all bytes so far.
func (h *Hash) Sum() [api.Digest]byte {
	last := *h // h itself must go on without the padding
	last.pad()
	return last.digest()
}

// Copy is one that goes on apart.
func (h *Hash) Copy() *Hash {
	other := *h
	return &other
}

// Len is how many bytes it has.
func (h *Hash) Len() int { return h.blocks*blockSize + h.filled }

// pad ends the message as the standard asks, at the end of a block: a bit, noughts, and how many bits there were.
func (h *Hash) pad() {
	const sizeBytes = 8
	size := uint64(h.Len()) * 8
	noughts := (2*blockSize - sizeBytes - 1 - h.filled) % blockSize
	var end [blockSize + sizeBytes]byte
	end[0] = 0x80
	for i := range sizeBytes {
		end[1+noughts+i] = byte(size >> (56 - 8*i))
	}
	h.Write(end[:1+noughts+sizeBytes])
}
