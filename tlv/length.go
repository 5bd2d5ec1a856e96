package tlv

import (
	"math/bits"

	"bulla/api"
)

const (
	maxBody = api.MaxBytes - 6
	long    = 128 // a length's first byte from here on tells how many bytes follow
	maxMore = 4   // how many may follow
)

// Size is how many bytes an element has.
func Size(n int) int {
	if n < 0 || n > maxBody {
		return 0
	}
	return 1 + 1 + more(n) + n
}

// more is how many bytes follow a length's first one, where it is as short as can be.
func more(n int) int {
	if n < long {
		return 0
	}
	return (bits.Len(uint(n)) + 7) / 8
}

// appendLength puts a length behind other bytes.
func appendLength(to []byte, n int) []byte {
	count := more(n)
	if count == 0 {
		return append(to, byte(n))
	}
	to = append(to, byte(long+count))
	for i := count - 1; i >= 0; i-- {
		to = append(to, byte(n>>(8*i)))
	}
	return to
}

// readLength is the length that bytes begin with, and what stands behind it.
func readLength(b []byte) (int, []byte, error) {
	if len(b) == 0 {
		return 0, nil, api.ErrShort
	}
	n, b := int(b[0]), b[1:]
	if n < long {
		return n, b, nil
	}
	count := n - long
	if count == 0 || count > maxMore {
		return 0, nil, api.ErrForm
	}
	if count > len(b) {
		return 0, nil, api.ErrShort
	}
	n = number(b[:count])
	if more(n) != count {
		return 0, nil, api.ErrForm
	}
	if n > maxBody {
		return 0, nil, api.ErrLong
	}
	return n, b[count:], nil
}

// number is what bytes tell, the high one first.
func number(b []byte) int {
	n := 0
	for _, c := range b {
		n = n<<8 | int(c)
	}
	return n
}
