package der_test

import (
	"bytes"
	"errors"
	"slices"

	"bulla/api"
	"bulla/moments"
	"bulla/oids"
	"bulla/texts"
	"bulla/tlv"
	"bulla/whole"
)

// The chapter told a second time, in another way: what is written is a text with marks at which something was opened, and what is read is a text with the ends of what was entered.

// toldWriter is a Writer as the chapter tells it.
type toldWriter struct {
	text []byte
	open []mark
	err  error
}

// mark is where an element that is under way begins, and where each of those that it is made of does.
type mark struct {
	tag, at int
	parts   []int
}

// isMade tells whether a tag's elements are made of others.
func isMade(tag int) bool { return tag == 48 || tag == 49 || tag >= 160 && tag <= 175 }

// byHand is an element's bytes.
func byHand(tag int, body []byte) []byte {
	b := []byte{byte(tag)}
	switch n := len(body); {
	case n <= 127:
		b = append(b, byte(n))
	case n <= 255:
		b = append(b, 0x81, byte(n))
	default:
		b = append(b, 0x82, byte(n/256), byte(n%256))
	}
	return append(b, body...)
}

// element puts one behind what is there.
func (w *toldWriter) element(tag int, body []byte, err error) {
	switch {
	case w.err != nil:
	case err != nil:
		w.err = err
	case len(body) > 65530:
		w.err = api.ErrLong
	default:
		w.behind(byHand(tag, body))
	}
}

// behind puts bytes behind what is there, and marks where.
func (w *toldWriter) behind(b []byte) {
	if n := len(w.open); n > 0 {
		w.open[n-1].parts = append(w.open[n-1].parts, len(w.text))
	}
	w.text = append(w.text, b...)
}

func (w *toldWriter) Open(tag int) {
	switch {
	case w.err != nil:
	case !isMade(tag):
		w.err = api.ErrTag
	case len(w.open) >= 16:
		w.err = api.ErrDepth
	default:
		w.open = append(w.open, mark{tag: tag, at: len(w.text)})
	}
}

func (w *toldWriter) Close() {
	if w.err != nil {
		return
	}
	if len(w.open) == 0 {
		w.err = api.ErrState
		return
	}
	m := w.open[len(w.open)-1]
	w.open = w.open[:len(w.open)-1]
	var parts []string
	for i, at := range m.parts {
		end := len(w.text)
		if i+1 < len(m.parts) {
			end = m.parts[i+1]
		}
		parts = append(parts, string(w.text[at:end]))
	}
	if m.tag == 49 {
		slices.Sort(parts)
	}
	w.text = w.text[:m.at]
	var body []byte
	for _, p := range parts {
		body = append(body, p...)
	}
	w.element(m.tag, body, nil)
}

func (w *toldWriter) Int(n int)       { w.element(2, whole.Put(n), nil) }
func (w *toldWriter) Enum(n int)      { w.element(10, whole.Put(n), nil) }
func (w *toldWriter) Bool(is bool)    { w.element(1, whole.Truth(is), nil) }
func (w *toldWriter) Octets(b []byte) { w.element(4, b, nil) }
func (w *toldWriter) Text(s string, most int) {
	body, err := texts.Put(s, most)
	w.element(12, body, err)
}
func (w *toldWriter) OID(text string) {
	body, err := oids.Put(text)
	w.element(6, body, err)
}
func (w *toldWriter) Moment(t int) {
	body, err := moments.Put(t)
	w.element(24, body, err)
}
func (w *toldWriter) Flags(mask int) {
	body, err := texts.Flags(mask)
	w.element(3, body, err)
}
func (w *toldWriter) Raw(b []byte) {
	if w.err != nil {
		return
	}
	if w.err = tlv.Check(b); w.err == nil {
		w.behind(b)
	}
}
func (w *toldWriter) Fail(err error) {
	if err != nil && w.err == nil {
		w.err = err
	}
}
func (w *toldWriter) Done() ([]byte, error) {
	switch {
	case w.err != nil:
		return nil, w.err
	case len(w.open) != 0:
		return nil, api.ErrState
	case len(w.text) > 65536:
		return nil, api.ErrLong
	}
	return w.text, nil
}

// toldReader is a Reader as the chapter tells it: where it stands in the text, and where what it has entered ends, innermost last.
type toldReader struct {
	text []byte
	at   int
	ends []int
	err  error
}

func toldRead(b []byte) *toldReader {
	if err := tlv.Check(b); err != nil {
		return &toldReader{err: err}
	}
	return &toldReader{text: slices.Clone(b)}
}

// end is where what is left ends.
func (r *toldReader) end() int {
	if len(r.ends) == 0 {
		return len(r.text)
	}
	return r.ends[len(r.ends)-1]
}

// look is where the next element's body begins, and where it ends.
func (r *toldReader) look() (int, int) {
	n, from := int(r.text[r.at+1]), r.at+2
	if n > 127 {
		count := n - 128
		n = 0
		for range count {
			n = n*256 + int(r.text[from])
			from++
		}
	}
	return from, from + n
}

// body is the next element's, which is gone then; ok, if it has the tag.
func (r *toldReader) body(tag int) ([]byte, bool) {
	switch {
	case r.err != nil:
		return nil, false
	case r.at == r.end():
		r.err = api.ErrShort
		return nil, false
	case int(r.text[r.at]) != tag:
		r.err = api.ErrTag
		return nil, false
	}
	from, to := r.look()
	r.at = to
	return r.text[from:to], true
}

func (r *toldReader) Enter(tag int) bool {
	if r.err != nil || r.at == r.end() {
		r.Fail(api.ErrShort)
		return false
	}
	if int(r.text[r.at]) != tag || !isMade(tag) {
		r.err = api.ErrTag
		return false
	}
	from, to := r.look()
	r.at, r.ends = from, append(r.ends, to)
	return true
}
func (r *toldReader) Leave() {
	switch {
	case r.err != nil:
	case len(r.ends) == 0:
		r.err = api.ErrState
	case r.at != r.end():
		r.err = api.ErrForm
	default:
		r.ends = r.ends[:len(r.ends)-1]
	}
}
func (r *toldReader) More() bool { return r.err == nil && r.at != r.end() }
func (r *toldReader) Peek() int {
	if r.err != nil || r.at == r.end() {
		return 0
	}
	return int(r.text[r.at])
}

// number is of either tag.
func (r *toldReader) number(tag, least, most int) int {
	body, ok := r.body(tag)
	if !ok {
		return 0
	}
	n, err := whole.Range(body, least, most)
	r.Fail(err)
	return n
}
func (r *toldReader) Int(least, most int) int  { return r.number(2, least, most) }
func (r *toldReader) Enum(least, most int) int { return r.number(10, least, most) }
func (r *toldReader) Bool() bool {
	body, ok := r.body(1)
	if !ok {
		return false
	}
	is, err := whole.IsTrue(body)
	r.Fail(err)
	return is
}
func (r *toldReader) Octets(least, most int) []byte {
	body, ok := r.body(4)
	if ok && len(body) < least {
		r.err = api.ErrShort
	} else if ok && len(body) > most {
		r.err = api.ErrLong
	} else if ok {
		return body
	}
	return nil
}
func (r *toldReader) Text(most int) string {
	body, ok := r.body(12)
	if !ok {
		return ""
	}
	s, err := texts.Get(body, most)
	r.Fail(err)
	return s
}
func (r *toldReader) OID() string {
	body, ok := r.body(6)
	if !ok {
		return ""
	}
	text, err := oids.Get(body)
	r.Fail(err)
	return text
}
func (r *toldReader) Moment() int {
	body, ok := r.body(24)
	if !ok {
		return 0
	}
	t, err := moments.Get(body)
	r.Fail(err)
	return t
}
func (r *toldReader) Flags() int {
	body, ok := r.body(3)
	if !ok {
		return 0
	}
	mask, err := texts.Mask(body)
	r.Fail(err)
	return mask
}
func (r *toldReader) Raw() []byte {
	from := r.at
	if _, ok := r.body(r.Peek()); !ok {
		return nil
	}
	return r.text[from:r.at]
}
func (r *toldReader) Fail(err error) {
	if r.err == nil {
		r.err = err
	}
}
func (r *toldReader) Err() error { return r.err }
func (r *toldReader) End() error {
	switch {
	case r.err != nil:
		return r.err
	case len(r.ends) > 0:
		return api.ErrState
	case r.at < len(r.text):
		return api.ErrForm
	}
	return nil
}

// writes is what both Writers do.
type writes interface {
	Open(tag int)
	Close()
	Int(n int)
	Enum(n int)
	Bool(is bool)
	Octets(b []byte)
	Text(s string, most int)
	OID(text string)
	Moment(t int)
	Flags(mask int)
	Raw(b []byte)
	Fail(err error)
	Done() ([]byte, error)
}

// reads is what both Readers do.
type reads interface {
	Enter(tag int) bool
	Leave()
	More() bool
	Peek() int
	Int(least, most int) int
	Enum(least, most int) int
	Bool() bool
	Octets(least, most int) []byte
	Text(most int) string
	OID() string
	Moment() int
	Flags() int
	Raw() []byte
	Fail(err error)
	Err() error
	End() error
}

// same tells whether two errors are one.
func same(a, b error) bool {
	return a == nil && b == nil || a != nil && b != nil && errors.Is(a, b) && errors.Is(b, a)
}

// sameAnswer tells whether two answers of a call are one; no bytes and nil are.
func sameAnswer(a, b any) bool {
	x, isBytes := a.([]byte)
	if !isBytes {
		return a == b
	}
	y, isBytes := b.([]byte)
	return isBytes && bytes.Equal(x, y)
}
