package sha

const blockSize = 64

// rest is bytes that don't fill a block yet.
type rest struct {
	bytes  [blockSize]byte
	filled int
}

// take takes as many bytes as there is room for, and answers those that are left.
func (r *rest) take(b []byte) []byte {
	n := copy(r.bytes[r.filled:], b)
	r.filled += n
	return b[n:]
}

func (r *rest) full() bool { return r.filled == blockSize }
