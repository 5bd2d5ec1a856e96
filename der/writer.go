package der

import (
	"bytes"
	"slices"

	"bulla/api"
	"bulla/moments"
	"bulla/oids"
	"bulla/texts"
	"bulla/tlv"
	"bulla/whole"
)

// Writer writes value by value. Its zero value has nothing open.
type Writer struct {
	open []element // innermost last
	done []byte
	err  error // the first one
}

// element is one that is under way. Its parts stay apart, as a set's are put in order when it is closed.
type element struct {
	tag   int
	parts [][]byte
}

// body is the bytes of what the element is made of.
func (e element) body() []byte {
	if e.tag == api.TagSet {
		return texts.Set(e.parts)
	}
	return slices.Concat(e.parts...)
}

// Open begins an element that is made of others.
func (w *Writer) Open(tag int) {
	switch {
	case w.err != nil:
	case !tlv.Made(tag):
		w.Fail(api.ErrTag)
	case len(w.open) == api.MaxDepth:
		w.Fail(api.ErrDepth)
	default:
		w.open = append(w.open, element{tag: tag})
	}
}

// Close ends it.
func (w *Writer) Close() {
	if w.err != nil {
		return
	}
	last := len(w.open) - 1
	if last < 0 {
		w.Fail(api.ErrState)
		return
	}
	closed := w.open[last]
	w.open = w.open[:last]
	write(w, closed.tag, closed, sure(element.body))
}

// Int writes a whole number.
func (w *Writer) Int(n int) { write(w, api.TagInt, n, sure(whole.Put)) }

// Enum writes a choice.
func (w *Writer) Enum(n int) { write(w, api.TagEnum, n, sure(whole.Put)) }

// Bool writes a truth.
func (w *Writer) Bool(is bool) { write(w, api.TagBool, is, sure(whole.Truth)) }

// Octets writes bytes.
func (w *Writer) Octets(b []byte) {
	write(w, api.TagOctets, b, func(b []byte) ([]byte, error) { return b, nil })
}

// Text writes a text.
func (w *Writer) Text(s string, most int) {
	write(w, api.TagText, s, func(s string) ([]byte, error) { return texts.Put(s, most) })
}

// OID writes an identifier.
func (w *Writer) OID(text string) { write(w, api.TagOID, text, oids.Put) }

// Moment writes a moment.
func (w *Writer) Moment(t int) { write(w, api.TagMoment, t, moments.Put) }

// Flags writes named bits.
func (w *Writer) Flags(mask int) { write(w, api.TagBits, mask, texts.Flags) }

// Raw writes an element's bytes.
func (w *Writer) Raw(b []byte) {
	if w.err != nil {
		return
	}
	if err := tlv.Check(b); err != nil {
		w.Fail(err)
		return
	}
	w.add(bytes.Clone(b))
}

// Fail makes it fail.
func (w *Writer) Fail(err error) {
	if w.err == nil {
		w.err = err
	}
}

// Done is all that was written.
func (w *Writer) Done() ([]byte, error) {
	switch {
	case w.err != nil:
		return nil, w.err
	case len(w.open) > 0:
		return nil, api.ErrState
	case len(w.done) > api.MaxBytes:
		return nil, api.ErrLong
	}
	return bytes.Clone(w.done), nil
}

// add puts an element's bytes into the innermost one that is open, or behind what is done.
func (w *Writer) add(b []byte) {
	if len(w.open) == 0 {
		w.done = append(w.done, b...)
		return
	}
	inner := &w.open[len(w.open)-1]
	inner.parts = append(inner.parts, b)
}

// write adds an element of a tag whose body tells the value.
func write[T any](w *Writer, tag int, value T, body func(T) ([]byte, error)) {
	if w.err != nil {
		return
	}
	b, err := body(value)
	if err == nil {
		b, err = tlv.Put(tlv.Element{Tag: tag, Body: b})
	}
	if err != nil {
		w.Fail(err)
		return
	}
	w.add(b)
}

// sure is a body of values that all have one.
func sure[T any](body func(T) []byte) func(T) ([]byte, error) {
	return func(value T) ([]byte, error) { return body(value), nil }
}
