package oids

import (
	"iter"
	"slices"

	"bulla/api"
)

const (
	maxFirst = lastFirst*perFirst + maxArc // the first two arcs in one number
	perByte  = 7                           // bits of a number
	more     = 1 << perByte                // says that the number's next byte follows
)

// Put is a text's body.
func Put(text string) ([]byte, error) {
	arcs, err := Parse(text)
	if err != nil {
		return nil, err
	}
	body := appendNumber(nil, perFirst*arcs[0]+arcs[1])
	for _, arc := range arcs[2:] {
		body = appendNumber(body, arc)
	}
	return body, nil
}

// Get is a body's text.
func Get(body []byte) (string, error) {
	if len(body) == 0 {
		return "", api.ErrShort
	}
	list, err := gather(ofBody(body))
	if err != nil {
		return "", err
	}
	first := min(list[0]/perFirst, lastFirst)
	second := list[0] - first*perFirst
	return Text(append([]int{first, second}, list[1:]...))
}

// ofBody gives the numbers of a body, in order; the last one may lack its end.
func ofBody(body []byte) iter.Seq2[int, error] {
	return func(yield func(int, error) bool) {
		most := maxFirst
		for rest := body; len(rest) > 0; {
			size := firstSize(rest)
			if !yield(numberOfBytes(rest[:size], most)) {
				return
			}
			rest, most = rest[size:], maxArc
		}
	}
}

// firstSize is how many bytes the first number of some has: all of them, if none is its last one.
func firstSize(b []byte) int {
	if at := slices.IndexFunc(b, isLast); at >= 0 {
		return at + 1
	}
	return len(b)
}

// numberOfBytes is what a number's bytes say.
func numberOfBytes(b []byte, most int) (int, error) {
	if !isLast(b[len(b)-1]) {
		return 0, api.ErrShort
	}
	if b[0] == more {
		return 0, api.ErrForm
	}
	n := 0
	for _, c := range b {
		n = n<<perByte | int(c&^more)
		if n > most { // asked at each byte, as an int doesn't hold what many of them say
			return 0, api.ErrRange
		}
	}
	return n, nil
}

// appendNumber puts a number's bytes behind others.
func appendNumber(body []byte, n int) []byte {
	size := 1
	for n>>(perByte*size) > 0 {
		size++
	}
	for i := size - 1; i > 0; i-- {
		body = append(body, more|byte(n>>(perByte*i)))
	}
	return append(body, byte(n)&^more)
}

// isLast tells whether a byte is a number's last one.
func isLast(c byte) bool { return c < more }
