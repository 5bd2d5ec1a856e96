package der

import (
	"bytes"

	"bulla/api"
	"bulla/moments"
	"bulla/oids"
	"bulla/texts"
	"bulla/tlv"
	"bulla/whole"
)

// Reader reads value by value.
type Reader struct {
	left    []tlv.Element   // of the innermost element that was entered
	outside [][]tlv.Element // what is left of those around it, the outermost one first
	err     error           // the first one
}

// Read is a reader of bytes.
func Read(b []byte) *Reader {
	if err := tlv.Check(b); err != nil {
		return &Reader{err: err}
	}
	left, err := tlv.All(b)
	return &Reader{left: left, err: err}
}

// Enter goes into an element.
func (r *Reader) Enter(tag int) bool {
	inside := read(r, tag, func(body []byte) ([]tlv.Element, error) {
		if !tlv.Made(tag) {
			return nil, api.ErrTag
		}
		return tlv.All(body)
	})
	if r.err != nil {
		return false
	}
	r.outside = append(r.outside, r.left)
	r.left = inside
	return true
}

// Leave leaves it.
func (r *Reader) Leave() {
	last := len(r.outside) - 1
	switch {
	case r.err != nil:
	case last < 0:
		r.Fail(api.ErrState)
	case len(r.left) > 0:
		r.Fail(api.ErrForm)
	default:
		r.left = r.outside[last]
		r.outside = r.outside[:last]
	}
}

// More tells whether something is left.
func (r *Reader) More() bool { return r.err == nil && len(r.left) > 0 }

// Peek is the next element's tag.
func (r *Reader) Peek() int {
	if !r.More() {
		return 0
	}
	return r.left[0].Tag
}

// Int reads a whole number.
func (r *Reader) Int(least, most int) int { return r.number(api.TagInt, least, most) }

// Enum reads a choice.
func (r *Reader) Enum(least, most int) int { return r.number(api.TagEnum, least, most) }

// Bool reads a truth.
func (r *Reader) Bool() bool { return read(r, api.TagBool, whole.IsTrue) }

// Octets reads bytes.
func (r *Reader) Octets(least, most int) []byte {
	return read(r, api.TagOctets, func(body []byte) ([]byte, error) {
		switch {
		case len(body) < least:
			return nil, api.ErrShort
		case len(body) > most:
			return nil, api.ErrLong
		}
		return bytes.Clone(body), nil
	})
}

// Text reads a text.
func (r *Reader) Text(most int) string {
	return read(r, api.TagText, func(body []byte) (string, error) { return texts.Get(body, most) })
}

// OID reads an identifier.
func (r *Reader) OID() string { return read(r, api.TagOID, oids.Get) }

// Moment reads a moment.
func (r *Reader) Moment() int { return read(r, api.TagMoment, moments.Get) }

// Flags reads named bits.
func (r *Reader) Flags() int { return read(r, api.TagBits, texts.Mask) }

// Raw reads an element's bytes.
func (r *Reader) Raw() []byte {
	tag := r.Peek()
	return read(r, tag, func(body []byte) ([]byte, error) {
		return tlv.Put(tlv.Element{Tag: tag, Body: body}) // an element has just one text
	})
}

// Fail makes it fail.
func (r *Reader) Fail(err error) {
	if r.err == nil {
		r.err = err
	}
}

// Err is the first error.
func (r *Reader) Err() error { return r.err }

// End is the first error, at the end.
func (r *Reader) End() error {
	switch {
	case r.err != nil:
		return r.err
	case len(r.outside) > 0:
		return api.ErrState
	case len(r.left) > 0:
		return api.ErrForm
	}
	return nil
}

// number reads a whole number of either tag, within bounds.
func (r *Reader) number(tag, least, most int) int {
	return read(r, tag, func(body []byte) (int, error) { return whole.Range(body, least, most) })
}

// read is what the body of the next element tells, if it has the tag; the zero value with an error.
func read[T any](r *Reader, tag int, get func(body []byte) (T, error)) T {
	var none T
	switch {
	case r.err != nil:
		return none
	case len(r.left) == 0:
		r.Fail(api.ErrShort)
		return none
	case r.left[0].Tag != tag:
		r.Fail(api.ErrTag)
		return none
	}
	value, err := get(r.left[0].Body)
	if err != nil {
		r.Fail(err)
		return none
	}
	r.left = r.left[1:]
	return value
}
