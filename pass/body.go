package pass

import (
	"bulla/api"
	"bulla/der"
	"bulla/mac"
	"bulla/names"
)

// field is a part of a body: how it is written, and how it is read.
type field struct {
	put func(w *der.Writer, p *api.Pass)
	get func(r *der.Reader, p *api.Pass)
}

// Body is its body.
func Body(p api.Pass) ([]byte, error) {
	if !Right(p) {
		return nil, api.ErrForm
	}
	var w der.Writer
	w.Open(api.TagList)
	for _, f := range fields() {
		f.put(&w, &p)
	}
	w.Close()
	return w.Done()
}

// Read is what a body says.
func Read(body []byte) (api.Pass, error) {
	var p api.Pass
	r := der.Read(body)
	r.Enter(api.TagList)
	for _, f := range fields() {
		f.get(r, &p)
	}
	r.Leave()
	if err := r.End(); err != nil {
		return api.Pass{}, err
	}
	if !Right(p) {
		return api.Pass{}, api.ErrForm
	}
	return p, nil
}

// fields is a body's, in order. There is one list for both ways, so that what is read can't part from what is written.
func fields() []field {
	return []field{
		value(func(p *api.Pass) *int { return &p.Serial }, (*der.Writer).Int, intTo(api.MaxSerial)),
		value(func(p *api.Pass) *string { return &p.Issuer }, putNumber, getNumber),
		value(func(p *api.Pass) *int { return &p.Gen }, (*der.Writer).Int, intTo(api.MaxGen)),
		value(func(p *api.Pass) *api.Subject { return &p.Account }, names.Put, names.Get),
		value(func(p *api.Pass) *string { return &p.Audience }, putLabel, getLabel),
		value(func(p *api.Pass) *string { return &p.Bound }, putNumber, getNumber),
		value(func(p *api.Pass) *int { return &p.Expiry }, (*der.Writer).Moment, (*der.Reader).Moment),
	}
}

// value is a field that stands at a place of what is said.
func value[T any](at func(*api.Pass) *T, put func(*der.Writer, T), get func(*der.Reader) T) field {
	return field{
		put: func(w *der.Writer, p *api.Pass) { put(w, *at(p)) },
		get: func(r *der.Reader, p *api.Pass) { *at(p) = get(r) },
	}
}

// intTo reads a number from 1 to another one.
func intTo(most int) func(*der.Reader) int {
	return func(r *der.Reader) int { return r.Int(1, most) }
}

// putNumber writes a key's number.
func putNumber(w *der.Writer, id string) {
	b, _ := mac.Bytes(id) // it is one, so there is no error
	w.Octets(b)
}

// getNumber reads a key's number.
func getNumber(r *der.Reader) string {
	id, _ := mac.Number(r.Octets(api.KeyID, api.KeyID)) // of other bytes the reader has the error
	return id
}

// putLabel writes a label.
func putLabel(w *der.Writer, label string) { w.Text(label, api.MaxName) }

// getLabel reads what has a label's size.
func getLabel(r *der.Reader) string { return r.Text(api.MaxName) }
