package mac

import "bulla/api"

const (
	maxWord  = 32
	maxParts = 16
	sizeLen  = 4 // the bytes that tell how long a part is
)

// Frame is a framed text: each length goes ahead of what it measures, so that unlike words or parts never look the same.
func Frame(word string, parts ...[]byte) ([]byte, error) {
	if !isWord(word) {
		return nil, api.ErrText
	}
	if len(parts) > maxParts {
		return nil, api.ErrLong
	}
	size := 1 + len(word) + 1
	for _, p := range parts {
		if len(p) > api.MaxBytes {
			return nil, api.ErrLong
		}
		size += sizeLen + len(p)
	}
	framed := make([]byte, 0, size)
	framed = append(framed, byte(len(word)))
	framed = append(framed, word...)
	framed = append(framed, byte(len(parts)))
	for _, p := range parts {
		framed = appendSize(framed, len(p))
		framed = append(framed, p...)
	}
	return framed, nil
}

// isWord tells whether a text may stand for a domain.
func isWord(word string) bool {
	if len(word) < 1 || len(word) > maxWord {
		return false
	}
	for i := range len(word) { // bytes, not runes: each of those beyond ASCII is wrong by itself
		if !isLetter(word[i]) {
			return false
		}
	}
	return true
}

// isLetter tells whether a byte may stand in a word.
func isLetter(c byte) bool {
	return 'a' <= c && c <= 'z' || '0' <= c && c <= '9' || c == '-'
}

// appendSize puts a length behind other bytes, the high byte first.
func appendSize(to []byte, n int) []byte {
	return append(to, byte(n>>24), byte(n>>16), byte(n>>8), byte(n))
}
