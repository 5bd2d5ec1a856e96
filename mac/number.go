package mac

import (
	"strings"

	"bulla/api"
	"bulla/sha"
)

const (
	figures   = "0123456789abcdef"
	numberLen = 2 * api.KeyID // two figures a byte
)

// ID is a key's number.
func ID(key []byte) string {
	d, _ := Tagged(key, "id") // the word is of its form, so there is no error
	return sha.Text(d)[:numberLen]
}

// Bytes is the bytes of a key's number.
func Bytes(id string) ([]byte, error) {
	if len(id) != numberLen {
		return nil, api.ErrForm
	}
	b := make([]byte, api.KeyID)
	for i := range b {
		high, low := strings.IndexByte(figures, id[2*i]), strings.IndexByte(figures, id[2*i+1])
		if high < 0 || low < 0 {
			return nil, api.ErrForm
		}
		b[i] = byte(high<<4 | low)
	}
	return b, nil
}

// Number is the key's number of bytes.
func Number(b []byte) (string, error) {
	if len(b) != api.KeyID {
		return "", api.ErrForm
	}
	var d [api.Digest]byte
	copy(d[:], b)
	return sha.Text(d)[:numberLen], nil
}
