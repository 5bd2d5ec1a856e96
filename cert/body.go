package cert

import (
	"bulla/api"
	"bulla/der"
	"bulla/mac"
	"bulla/names"
)

// field is a part of a body: how it is written, and how it is read.
type field struct {
	put func(w *der.Writer, c *api.Cert)
	get func(r *der.Reader, c *api.Cert)
}

// Body is its body.
func Body(c api.Cert) ([]byte, error) {
	if !Right(c) {
		return nil, api.ErrForm
	}
	var w der.Writer
	fields().put(&w, &c)
	return w.Done()
}

// Read is what a body says.
func Read(body []byte) (api.Cert, error) {
	var c api.Cert
	r := der.Read(body)
	fields().get(r, &c)
	if err := r.End(); err != nil {
		return api.Cert{}, err
	}
	if !Right(c) {
		return api.Cert{}, api.ErrForm
	}
	return c, nil
}

// fields is a body's, in order. There is one list for both ways, so that what is read can't part from what is written.
func fields() field {
	return list(
		value(func(c *api.Cert) *int { return &c.Serial }, (*der.Writer).Int, intTo(api.MaxSerial)),
		value(func(c *api.Cert) *string { return &c.Issuer }, putNumber, getNumber),
		value(func(c *api.Cert) *int { return &c.Gen }, (*der.Writer).Int, intTo(api.MaxGen)),
		value(func(c *api.Cert) *api.Subject { return &c.Subject }, names.Put, names.Get),
		list(
			value(func(c *api.Cert) *int { return &c.NotBefore }, (*der.Writer).Moment, (*der.Reader).Moment),
			value(func(c *api.Cert) *int { return &c.NotAfter }, (*der.Writer).Moment, (*der.Reader).Moment),
		),
		value(func(c *api.Cert) *string { return &c.Key }, putNumber, getNumber),
		value(func(c *api.Cert) *int { return &c.Usages }, (*der.Writer).Flags, (*der.Reader).Flags),
		value(func(c *api.Cert) *[]string { return &c.Alts }, putAlts, getAlts),
	)
}

// list is fields in a list of their own.
func list(inside ...field) field {
	return field{
		put: func(w *der.Writer, c *api.Cert) {
			w.Open(api.TagList)
			for _, f := range inside {
				f.put(w, c)
			}
			w.Close()
		},
		get: func(r *der.Reader, c *api.Cert) {
			r.Enter(api.TagList)
			for _, f := range inside {
				f.get(r, c)
			}
			r.Leave()
		},
	}
}

// value is a field that stands at a place of what is said.
func value[T any](at func(*api.Cert) *T, put func(*der.Writer, T), get func(*der.Reader) T) field {
	return field{
		put: func(w *der.Writer, c *api.Cert) { put(w, *at(c)) },
		get: func(r *der.Reader, c *api.Cert) { *at(c) = get(r) },
	}
}

// intTo reads a number from 1 to another one.
func intTo(most int) func(*der.Reader) int {
	return func(r *der.Reader) int { return r.Int(1, most) }
}

// putNumber writes a key's number.
func putNumber(w *der.Writer, id string) {
	b, _ := mac.Bytes(id) // it is one, so there is no error
	w.Octets(b)
}

// getNumber reads a key's number.
func getNumber(r *der.Reader) string {
	id, _ := mac.Number(r.Octets(api.KeyID, api.KeyID)) // of other bytes the reader has the error
	return id
}

// putAlts writes the other names.
func putAlts(w *der.Writer, alts []string) {
	der.Rows(w, api.TagList, alts, func(w *der.Writer, name string) { w.Text(name, api.MaxName) })
}

// getAlts reads the other names.
func getAlts(r *der.Reader) []string {
	return der.Row(r, api.TagList, api.MaxAlts, func(r *der.Reader) string { return r.Text(api.MaxName) })
}
