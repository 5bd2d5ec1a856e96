package sha

import (
	"bytes"
	"crypto/sha256"
	"encoding"
	"encoding/binary"
	"testing"
)

// far is a hash behind so many blocks, which nobody could give it in a test's time; the words are those that one block leaves.
func far(blocks int) *Hash {
	h := New()
	h.Write(make([]byte, blockSize))
	h.blocks = blocks
	return h
}

// P1.1: each byte of the size that is appended counts, up to the greatest length that the chapter names.
func TestSizeOfFarMore(t *testing.T) {
	for power := range 55 {
		for _, blocks := range []int{1 << power, 1<<(power+1) - 1} {
			h := far(blocks)
			h.Write([]byte("abc"))
			if h.Len() != blocks*blockSize+3 {
				t.Fatalf("behind %d blocks: %d bytes", blocks, h.Len())
			}
			sum := h.Sum()
			if want := farther(t, h); !bytes.Equal(sum[:], want) {
				t.Errorf("behind %d blocks: %x, wanted %x", blocks, sum, want)
			}
			if c := h.Copy(); c.Len() != h.Len() || c.Sum() != sum {
				t.Errorf("behind %d blocks: the copy is another one", blocks)
			}
		}
	}
}

// farther is what the library's SHA-256 makes of h, given its state.
func farther(t *testing.T, h *Hash) []byte {
	t.Helper()
	state := []byte("sha\x03")
	for _, w := range h.words {
		state = binary.BigEndian.AppendUint32(state, w)
	}
	var buffer [blockSize]byte
	copy(buffer[:], h.bytes[:h.filled])
	state = append(state, buffer[:]...)
	state = binary.BigEndian.AppendUint64(state, uint64(h.Len()))
	other := sha256.New()
	if err := other.(encoding.BinaryUnmarshaler).UnmarshalBinary(state); err != nil {
		t.Fatal(err)
	}
	return other.Sum(nil)
}
