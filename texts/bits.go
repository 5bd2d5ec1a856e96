package texts

import (
	"math/bits"

	"bulla/api"
)

const (
	perByte  = 8
	maxBytes = 2         // of a mask's bits
	maxMask  = 1<<15 - 1 // so the last bit of two bytes is never one of a mask
)

// Flags is a mask's named bits.
func Flags(mask int) ([]byte, error) {
	if mask < 0 || mask > maxMask {
		return nil, api.ErrRange
	}
	count := bits.Len(uint(mask))
	size := (count + perByte - 1) / perByte
	two := bits.Reverse16(uint16(mask)) // the bit of 2^0 stands first
	body := []byte{byte(size*perByte - count), byte(two >> perByte), byte(two)}
	return body[:1+size], nil
}

// Mask is the mask of named bits.
func Mask(b []byte) (int, error) {
	if len(b) == 0 {
		return 0, api.ErrShort
	}
	if !isNamed(b[0], b[1:]) {
		return 0, api.ErrForm
	}
	var two [maxBytes]byte
	copy(two[:], b[1:])
	mask := int(bits.Reverse16(uint16(two[0])<<perByte | uint16(two[1])))
	if mask > maxMask {
		return 0, api.ErrRange
	}
	return mask, nil
}

// isNamed tells whether bytes of bits, of the last of which so many don't count, are named bits of no more bytes than a mask has.
func isNamed(idle byte, its []byte) bool {
	if len(its) == 0 {
		return idle == 0
	}
	if idle >= perByte || len(its) > maxBytes {
		return false
	}
	return bits.TrailingZeros8(its[len(its)-1]) == int(idle) // behind the last bit that is 1 stand just those that don't count
}
