package tlv

import (
	"bytes"

	"bulla/api"
)

// Check asks whether bytes are a whole element.
func Check(b []byte) error {
	_, err := levels(b)
	return err
}

// Depth is how many levels an element that is whole has; 0 of what isn't one.
func Depth(b []byte) int {
	n, _ := levels(b)
	return n
}

// levels is how many levels bytes have, or why they aren't a whole element.
func levels(b []byte) (int, error) {
	if len(b) > api.MaxBytes {
		return 0, api.ErrLong
	}
	e, rest, err := first(b)
	if err != nil {
		return 0, err
	}
	if len(rest) > 0 {
		return 0, api.ErrForm
	}
	return within(e, api.MaxDepth)
}

// within is how many levels an element has that may have no more than left, which is 1 at least.
func within(e Element, left int) (int, error) {
	if !Made(e.Tag) {
		return 1, nil
	}
	deepest := 0
	var ahead []byte
	for b := e.Body; len(b) > 0; {
		inner, rest, err := first(b)
		if err != nil {
			return 0, err
		}
		if left == 1 {
			return 0, api.ErrDepth
		}
		n, err := within(inner, left-1)
		if err != nil {
			return 0, err
		}
		its := b[:len(b)-len(rest)]
		if e.Tag == api.TagSet && bytes.Compare(its, ahead) < 0 {
			return 0, api.ErrOrder
		}
		deepest = max(deepest, n)
		ahead, b = its, rest
	}
	return 1 + deepest, nil
}
